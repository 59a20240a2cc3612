import Derived.Deep.RegionHeld3
import Derived.Test.YteneoapickhpdaaGreatDoorGIc
import Derived.Test.YteneoapickhpdaaGreatDoorGVa
import Derived.Test.YteneoapickhpdaaGreatDoorGVb
import Derived.Test.YteneoapickhpdaaGreatDoorGZa
set_option linter.unusedSimpArgs false
set_option linter.unusedVariables false
set_option linter.unusedSectionVars false
namespace Go.Proofs.YteneoapickhpdaaGreatDoor
open Go Go.RowKit Go.ChangeMaps Un
section
variable {w : World} {B pb : Nat} {bv : Value} {l : List UInt8} {last : ByteArray} {mv : Value} {Q : Nat → Prop} {nd : Nd} {v : Value}
set_option maxRecDepth 100000 in
set_option maxHeartbeats 2000000 in
theorem patternRank_C (h : PP w Q nd v) : Calls Tryz.prog 182 #[v] w fun e w' => e = .returned (.int .i64 (prk nd : Int)) ∧ Below w.heap.size w w' := by
  have hb0 : ∀ C t, Below w.heap.size w (w.alloc (.cells C t)) := fun C t => (Below.refl _ _).alloc (Nat.le_refl _) _
  cases h with
  | any s n f t a =>
    have h1 := taPattern_Any_Made
    go_enter Tryz.func182, Tryz.ntmps182
    go_wp2_with fail
    go_ret
    exact ⟨by simp [prk], hb0 _ _⟩
  | low s n f t a hs =>
    have h1 := taPattern_Low_Made
    go_enter Tryz.func182, Tryz.ntmps182
    go_wp2_with fail
    go_ret
    exact ⟨by simp [prk], hb0 _ _⟩
  | num s n f t a =>
    have h1 := taPattern_Number_Made
    go_enter Tryz.func182, Tryz.ntmps182
    go_wp2_with fail
    go_ret
    exact ⟨by simp [prk], hb0 _ _⟩
  | word s n f t a hs =>
    have h1 := taPattern_Bool_Made
    go_enter Tryz.func182, Tryz.ntmps182
    go_wp2_with fail
    go_ret
    exact ⟨by simp [prk], hb0 _ _⟩
  | unit s n f t a =>
    have h1 := taPattern_Unit_Made
    go_enter Tryz.func182, Tryz.ntmps182
    go_wp2_with fail
    go_ret
    exact ⟨by simp [prk], hb0 _ _⟩
  | pr s n x y f t a vx vy hx hy =>
    have h1 := taPattern_PatternPair_Made
    go_enter Tryz.func182, Tryz.ntmps182
    go_wp2_with fail
    go_ret
    exact ⟨by simp [prk], hb0 _ _⟩
  | up s n L f t a y sa sc vs hu hy hrow hr =>
    have h1 := taPattern_Made_Made
    by_cases hL : L = []
    · have h3 : decide ((0 : Int) < (L.length : Int)) = false := by simp [hL]
      go_enter Tryz.func182, Tryz.ntmps182
      go_wp2_with fail
      go_ret
      exact ⟨by simp [prk, hL], hb0 _ _⟩
    · have h3 : (0 : Int) < (L.length : Int) := by have := List.length_pos_iff.2 hL; omega
      go_enter Tryz.func182, Tryz.ntmps182
      go_wp2_with fail
      go_ret
      exact ⟨by simp [prk, hL], hb0 _ _⟩
set_option maxRecDepth 100000 in
set_option maxHeartbeats 2000000 in
theorem closP_C (HB : BarePC nd) (h : PN w B pb bv l last mv) (hp : PP w Q nd v) (hq : NT w pb Q) (hl : (l ++ (sep last ++ sh nd)).length ≤ 800000) (hB : B ≤ pb) (b1 b2 : Nat) (h1 : Bx w b1 #[.pointer (some ⟨pb, 0, none⟩)]) (h2 : Bx w b2 #[v]) :
    Calls Tryz.prog 183 #[.pointer (some ⟨b1, 0, none⟩), .pointer (some ⟨b2, 0, none⟩)] w (AtPost B pb mv (l ++ (sep last ++ sh nd)) w) := by
  obtain ⟨tv, xv, rfl⟩ := hp.iface
  obtain ⟨c1, f1, z1⟩ := h1
  obtain ⟨c2, f2, z2⟩ := h2
  have HC := HB w B pb bv l last mv Q _ h hp hq hl hB
  go_enter Tryz.func183, Tryz.ntmps183
  go_wp2_with fail
  refine HC.mono ?_
  intro e w1 hp1
  have hp2 := hp1
  obtain ⟨rfl, _⟩ := hp1
  go_wp2_with fail
  go_end0
  exact hp2
theorem groupP_C (HB : BarePC nd) (k : Nat) (h : PN w B pb bv l last mv) (hp : PP w Q nd v) (hq : NT w pb Q) (hl : (l ++ (sep last ++ atPt nd k)).length ≤ 800000) (hB : B ≤ pb) (b1 b2 : Nat) (h1 : Bx w b1 #[.pointer (some ⟨pb, 0, none⟩)]) (h2 : Bx w b2 #[v]) (n1 : b1 ≠ pb) (n2 : b2 ≠ pb) :
    Calls Tryz.prog 63 #[.pointer (some ⟨pb, 0, none⟩), .bool (decide (prk nd < k)), .func (.func 183) #[] #[.pointer (some ⟨b1, 0, none⟩), .pointer (some ⟨b2, 0, none⟩)]] w (AtPost B pb mv (l ++ (sep last ++ atPt nd k)) w) := by
  obtain ⟨tv, xv, rfl⟩ := hp.iface
  exact group2_X (fun W => PP W Q nd (.iface tv (.agg xv)) ∧ NT W pb Q ∧ Bx W b1 #[.pointer (some ⟨pb, 0, none⟩)] ∧ Bx W b2 #[.iface tv (.agg xv)])
    (fun w w' i F => ⟨i.1.fnQ i.2.1 F, i.2.1.fn F, F.pn_ne i.2.2.1 n1 (by intro x hx c; simp at hx; subst hx; intro q; cases q), F.pn_ne i.2.2.2 n2 (by intro x hx c; simp at hx; subst hx; intro q; cases q)⟩)
    (fun _ _ => by kernel_rfl) (fun w bv l last hN i hb => closP_C HB hN i.1 i.2.1 hb hB b1 b2 i.2.2.1 i.2.2.2) h ⟨hp, hq, h1, h2⟩ hl
set_option maxRecDepth 100000 in
set_option maxHeartbeats 10000000 in
theorem patternAt_C (HB : BarePC nd) : AtPC nd := by
  intro w B pb bv l last mv Q v k h hp hq hk hl hB
  obtain ⟨tv, xv, hv⟩ := hp.iface
  have hzp := h.lt
  have n1 : w.heap.size ≠ pb := by omega
  have n2 : w.heap.size + 1 ≠ pb := by omega
  obtain ⟨R, hR⟩ : ∃ R, R = AtPost B pb mv (l ++ (sep last ++ atPt nd k)) w := ⟨_, rfl⟩
  obtain ⟨r, hr⟩ : ∃ r, r = prk nd := ⟨_, rfl⟩
  have hb0 : Below w.heap.size w ((w.alloc (.cells #[.pointer (some ⟨pb, 0, none⟩)] 66)).alloc (.cells #[v] 205)) := ((Below.refl _ _).alloc (Nat.le_refl _) _).alloc (by simp) _
  have X1 := ((Bx.new w #[.pointer (some ⟨pb, 0, none⟩)] 66).alloc (.cells #[v] 205))
  have X2 : Bx ((w.alloc (.cells #[.pointer (some ⟨pb, 0, none⟩)] 66)).alloc (.cells #[v] 205)) (w.heap.size + 1) #[v] := by have := Bx.new (w.alloc (.cells #[.pointer (some ⟨pb, 0, none⟩)] 66)) #[v] 205; simpa using this
  have HN := h.bel hb0
  have HP := hp.bel hb0
  have F0 := FN.of (B := B) (pb := pb) hb0
  have HQ := hq.fn F0
  have hmf : ∀ (fn : Fn) (first cap : Array Value) (w : World), (Instr.makeFunc fn first cap).run Tryz.prog w = .ok (.func fn first cap) w := fun _ _ _ _ => rfl
  subst hv
  rw [← hR]
  clear h hp hq hb0
  go_enter Tryz.func170, Tryz.ntmps170
  go_wp2_with fail
  generalize ((w.alloc (.cells #[.pointer (some ⟨pb, 0, none⟩)] 66)).alloc (.cells #[.iface tv (.agg xv)] 205)) = W0 at X1 X2 HN HP F0 HQ ⊢
  generalize w.heap.size = b1 at n1 n2 X1 X2 ⊢
  have c1 := X1.c
  have f1 := X1.f
  have z1 := X1.z
  have c2 := X2.c
  have f2 := X2.f
  have z2 := X2.z
  have HRK : Hid (∀ W, Below W0.heap.size W0 W → Calls Tryz.prog 182 #[.iface tv (.agg xv)] W fun e w' => e = .returned (.int .i64 (r : Int)) ∧ Below W.heap.size W w') := hide (fun W hW => by rw [hr]; exact patternRank_C (HP.bel hW))
  have HG : Hid (∀ W, Below W0.heap.size W0 W → Calls Tryz.prog 63 #[.pointer (some ⟨pb, 0, none⟩), .bool (decide (r < k)), .func (.func 183) #[] #[.pointer (some ⟨b1, 0, none⟩), .pointer (some ⟨b1 + 1, 0, none⟩)]] W fun e w' => e = .returned (.tuple #[]) ∧ R e w' ∧ w'.cell? ⟨b1, 0, none⟩ = some (.pointer (some ⟨pb, 0, none⟩)) ∧ w'.cell? ⟨b1 + 1, 0, none⟩ = some (.iface tv (.agg xv))) := hide (fun W hW => by
    have FW := FN.of (B := B) (pb := pb) hW
    rw [hr]
    refine (groupP_C HB k (HN.bel hW) (HP.bel hW) (HQ.fn FW) hl hB b1 (b1 + 1) (X1.below hW) (X2.below hW) n1 n2).mono ?_
    rintro e w2 ⟨rfl, bv2, last2, hN2, fi2, hF2⟩
    have Y1 := hF2.pn_ne (X1.below hW) n1 (by intro x hx c; simp at hx; subst hx; intro q; cases q)
    have Y2 := hF2.pn_ne (X2.below hW) n2 (by intro x hx c; simp at hx; subst hx; intro q; cases q)
    refine ⟨rfl, ?_, Y1.c 0, Y2.c 0⟩
    rw [hR]
    exact ⟨rfl, bv2, last2, hN2, fi2, F0.trans (FW.trans hF2)⟩)
  clear HB HN HP HQ F0 hR hr hl X1 X2 n1 n2 hzp hk hB
  have k1 : W0.cell? ⟨b1, 0, none⟩ = some (.pointer (some ⟨pb, 0, none⟩)) := c1 0
  have k2 : W0.cell? ⟨b1 + 1, 0, none⟩ = some (.iface tv (.agg xv)) := c2 0
  clear c1 c2 f1 f2
  go_region_held3 (fun w' => w'.cell? ⟨b1, 0, none⟩ = some (.pointer (some ⟨pb, 0, none⟩)) ∧ w'.cell? ⟨b1 + 1, 0, none⟩ = some (.iface tv (.agg xv))) (first | go_keep | (simp [*])) (first | (go_at_call 182; refine (unhide HRK _ (Below.refl _ _).drew).mono ?_; rintro e w1 ⟨rfl, hb1⟩; have HB1 := hide (drew_bel hb1); have k3 : w1.cell? ⟨b1, 0, none⟩ = some (.pointer (some ⟨pb, 0, none⟩)) := (World.cell?_of_block (a := ⟨b1, 0, none⟩) ((unhide HB1).block b1 z1)).trans k1; have k4 : w1.cell? ⟨b1 + 1, 0, none⟩ = some (.iface tv (.agg xv)) := (World.cell?_of_block (a := ⟨b1 + 1, 0, none⟩) ((unhide HB1).block (b1 + 1) z2)).trans k2; clear hb1) | (go_at_call 63; with_reducible refine (unhide HG _ (unhide HB1)).mono ?_; rintro e w2 ⟨rfl, hR2, k5, k6⟩; have HR2 := hide hR2; clear hR2))
  all_goals (
    go_wp2_with fail
    go_end0
    exact unhide HR2)
end
end Go.Proofs.YteneoapickhpdaaGreatDoor
namespace Go.Proofs.YteneoapickhpdaaGreatDoor
open Go Go.RowKit Go.ChangeMaps Un
theorem PP.at5 {w : World} {Q : Nat → Prop} {nd : Nd} {v : Value} (h : PP w Q nd v) : atPt nd 1 = atP (lv nd, sh nd) 5 := by
  unfold atPt atP
  cases h with
  | up s n L f t a y sa sc vs hu hy hrow hr => by_cases hL : L = [] <;> simp [prk, lv, hL]
  | _ => simp [prk, lv]
theorem behind_take (L : List Nd) (j : Nat) (h : j < L.length) : behindP ((L.take (j + 1)).map fun x => (lv x, sh x)) = behindP ((L.take j).map fun x => (lv x, sh x)) ++ 32 :: atP (lv L[j], sh L[j]) 5 := by
  unfold behindP
  rw [List.take_add_one, List.getElem?_eq_getElem h]
  simp only [List.map_append, List.flatMap_append, Option.toList_some, List.map_cons, List.map_nil, List.flatMap_cons, List.flatMap_nil, List.append_nil]
theorem behind_le (L : List Nd) (j : Nat) : (behindP ((L.take j).map fun x => (lv x, sh x))).length ≤ (behindP (L.map fun x => (lv x, sh x))).length := by
  have e : behindP (L.map fun x => (lv x, sh x)) = behindP ((L.take j).map fun x => (lv x, sh x)) ++ behindP ((L.drop j).map fun x => (lv x, sh x)) := by
    unfold behindP
    rw [← List.flatMap_append, ← List.map_append, List.take_append_drop]
  rw [e, List.length_append]
  omega
def PMadeRel (B pb : Nat) (mv : Value) (l : List UInt8) (L : List Nd) (w : World) (gk : Nat) (v : Value) (wr : World) : Prop :=
  ∃ (j : Nat) (bv' : Value) (last' : ByteArray), Hid (gk = L.length - j) ∧ j ≤ L.length ∧ v = .int .i64 (j : Int) ∧ PN wr B pb bv' (l ++ behindP ((L.take j).map fun x => (lv x, sh x))) last' mv ∧ Fine last' ∧ FN B pb w wr
set_option maxRecDepth 100000 in
set_option maxHeartbeats 2000000 in
theorem bareP_up (s : ByteArray) (n : Nat) (L : List Nd) (f t a : Nat) (hss : s.size ≤ 1000) (hL : L.length ≤ 1001) (IH : ∀ i (h : i < L.length), AtPC L[i]) : BarePC (.mk 2 s n L f t a) := by
  intro w B pb bv l last mv Q v h hp hq hl hB
  cases hp with
  | up s n L f t a y sa sc vs hu hy hrow hr =>
  clear hy
  rw [sh_up] at hl ⊢
  simp only [List.length_append] at hl
  have ha0 := taPattern_Made_Any
  have ha1 := taPattern_Made_Low
  have ha2 := taPattern_Made_Number
  have ha3 := taPattern_Made_Bool
  have ha4 := taPattern_Made_Unit
  have ha5 := taPattern_Made_Made
  obtain ⟨n1, n2, n3⟩ := up_ne hu
  have hfi := fine_up hu
  have HR := hide hr
  have HW := hide hrow
  have Hq := hide hq
  clear hr hrow
  have hbW : Below w.heap.size w (w.alloc (.cells #[.int .i64 (f : Int), .int .i64 (t : Int), .int .i64 (a : Int), .int .i64 (y : Int), .string s, .slice sa L.length sc] 250)) := ((Below.refl _ _).alloc (Nat.le_refl _) (.cells #[.int .i64 (f : Int), .int .i64 (t : Int), .int .i64 (a : Int), .int .i64 (y : Int), .string s, .slice sa L.length sc] 250))
  have zW : (w.alloc (.cells #[.int .i64 (f : Int), .int .i64 (t : Int), .int .i64 (a : Int), .int .i64 (y : Int), .string s, .slice sa L.length sc] 250)).heap.size = w.heap.size + 1 := by simp
  have FW := FN.of (B := B) (pb := pb) hbW
  have hzp := h.lt
  have N0 := hide (h.bel hbW)
  have F0 := hide (FN.refl B pb (w.alloc (.cells #[.int .i64 (f : Int), .int .i64 (t : Int), .int .i64 (a : Int), .int .i64 (y : Int), .string s, .slice sa L.length sc] 250)))
  have BXb := hide (Bx.at w #[.int .i64 (f : Int), .int .i64 (t : Int), .int .i64 (a : Int), .int .i64 (y : Int), .string s, .slice sa L.length sc] 250 (w.heap.size) (by simp))
  have HQ := hide (hq.fn FW)
  clear h hq
  go_enter Tryz.func184, Tryz.ntmps184
  have zp1 := (unhide N0).lt
  rw [zW] at zp1
  have hb1 : Below (w.alloc (.cells #[.int .i64 (f : Int), .int .i64 (t : Int), .int .i64 (a : Int), .int .i64 (y : Int), .string s, .slice sa L.length sc] 250)).heap.size (w.alloc (.cells #[.int .i64 (f : Int), .int .i64 (t : Int), .int .i64 (a : Int), .int .i64 (y : Int), .string s, .slice sa L.length sc] 250)) ((w.alloc (.cells #[.int .i64 (f : Int), .int .i64 (t : Int), .int .i64 (a : Int), .int .i64 (y : Int), .string s, .slice sa L.length sc] 250)).alloc (.cells #[.string s] 9)) := (Below.refl _ _).alloc (Nat.le_refl _) _
  have eT1 : putsL l last [s] = (l ++ (sep last ++ s.toList)) := by
    show (putL' l last s) = _
    rw [putLoose rfl n1 n2 n3]
  have HP1 := puts_C ((unhide N0).bel hb1) [s] (by intro t ht; simp only [List.mem_cons, List.not_mem_nil, or_false] at ht; rcases ht with rfl <;> first | decide | assumption) (by simp) (by first | omega | (simp only [List.length_append, List.length_cons, List.length_nil]; omega)) (w.heap.size + 1) (Bx.at (w.alloc (.cells #[.int .i64 (f : Int), .int .i64 (t : Int), .int .i64 (a : Int), .int .i64 (y : Int), .string s, .slice sa L.length sc] 250)) #[.string s] 9 (w.heap.size + 1) (by simp)) (by omega) (Or.inr ((Bx.at (w.alloc (.cells #[.int .i64 (f : Int), .int .i64 (t : Int), .int .i64 (a : Int), .int .i64 (y : Int), .string s, .slice sa L.length sc] 250)) #[.string s] 9 (w.heap.size + 1) (by simp)).nby (by intro x hx c; simp at hx; subst hx; intro q; cases q)))
  rw [eT1] at HP1
  go_wp2_with fail
  refine HP1.mono ?_
  rintro e w1 ⟨rfl, bvw1, hN, hF⟩
  have N2 : Hid (PN w1 B pb bvw1 (l ++ (sep last ++ s.toList)) s mv) := hide hN
  have F3 := hide ((unhide F0).trans ((FN.of hb1).trans hF))
  have zw1 := (unhide F3).size
  rw [zW] at zw1
  clear hN hF HP1 hb1 eT1 N0 F0
  obtain ⟨c4, fc4, zc4⟩ := (unhide F3).pn_ne (unhide BXb) (by omega) (by intro x hx c; simp at hx; subst hx; intro q; cases q)
  go_wp2_with fail
  go_loopg [64] L.length (fun gk v wr => PMadeRel B pb mv (l ++ (sep last ++ s.toList)) L w gk v wr)
  case atStart => exact ⟨0, bvw1, s, hide rfl, Nat.zero_le _, rfl, by simpa [behindP] using unhide N2, hfi, FW.trans (unhide F3)⟩
  case round =>
    clear N2 F3 c4 fc4 zc4
    obtain ⟨j, bv2, last2, hgk, hj, rfl, N2, fi2, F2⟩ := hrel
    by_cases hjl : j < L.length
    · have hd : (j : Int) < (L.length : Int) := by omega
      obtain ⟨g, rfl, hg, hgz, hcell⟩ : ∃ g, sa = some ⟨g, 0, none⟩ ∧ Q g ∧ g < w.heap.size ∧ ∀ i, i < L.length → w.cell? ⟨g, i, none⟩ = some (vs i) := by
        rcases unhide HW with h0 | h0
        · subst h0; simp at hjl
        · exact h0
      have cg : wr.cell? ⟨g, j, none⟩ = some (vs j) := (World.cell?_of_block (a := ⟨g, j, none⟩) (F2.block g hgz ((unhide Hq).q g hg).2.1 (Or.inr ((unhide Hq).q g hg).2.2))).trans (hcell j hjl)
      have PJ := (unhide HR j hjl).fnQ (unhide Hq) F2
      obtain ⟨tv, xv, hv⟩ := PJ.iface
      have ft := behind_take L j hjl
      have fl := behind_le L (j + 1)
      rw [ft] at fl
      simp only [List.length_append, List.length_cons] at fl
      have e5 := PJ.at5
      rw [← e5] at ft fl
      have HC := IH j hjl wr B pb bv2 _ last2 mv Q (vs j) 1 N2 PJ ((unhide Hq).fn F2) (Nat.le_refl _) (by rw [sep_fine fi2]; simp only [List.length_append, List.length_cons, List.length_nil]; omega) hB
      rw [hv] at cg HC
      rw [sep_fine fi2] at HC
      go_wp2_with (go_at_call 170; refine HC.mono ?_; rintro e w3 ⟨rfl, bv3, last3, hN3, fi3, hF3⟩; have HN3 := hide hN3; have HF3 := hide (F2.trans hF3); clear hN3 hF3)
      go_roundg (L.length - (j + 1))
      case measure => rw [unhide hgk]; omega
      case rel =>
        refine ⟨j + 1, bv3, last3, hide rfl, by omega, by go_num, ?_, fi3, unhide HF3⟩
        rw [ft]
        have e9 : (l ++ (sep last ++ s.toList)) ++ (behindP ((L.take j).map fun x => (lv x, sh x)) ++ 32 :: atPt L[j] 1) = (l ++ (sep last ++ s.toList)) ++ behindP ((L.take j).map fun x => (lv x, sh x)) ++ ([32] ++ atPt L[j] 1) := by simp
        rw [e9]
        exact unhide HN3
    · have hd : decide ((j : Int) < (L.length : Int)) = false := by simp; omega
      have ej : j = L.length := by omega
      subst ej
      rw [List.take_length] at N2
      go_wp2_with fail
      go_end0
      refine ⟨rfl, bv2, last2, ?_, fi2, F2⟩
      rw [show l ++ (sep last ++ (s.toList ++ behindP (L.map fun x => (lv x, sh x)))) = (l ++ (sep last ++ s.toList)) ++ behindP (L.map fun x => (lv x, sh x)) by simp]
      exact N2
/-- A part that is small enough to be written: its names, its numbers, its lists. -/
inductive Sm : Nd → Prop where
  | mk (k : Nat) (s : ByteArray) (n : Nat) (L : List Nd) (f t a : Nat) (hs : s.size ≤ 1000) (hn : n < 1000000000) (hl : L.length ≤ 1001) (hL : ∀ x ∈ L, Sm x) : Sm (.mk k s n L f t a)
theorem barePC_all (HI : ItoaC) {nd : Nd} (h : Sm nd) : BarePC nd := by
  induction h with
  | mk k s n L f t a hs hn hl hL ih =>
    intro w B pb bv l last mv Q v hN hp
    have hp0 := hp
    cases hp with
    | any => exact bareP_any s n f t a w B pb bv l last mv Q _ hN hp0
    | low => exact bareP_low s n f t a hs w B pb bv l last mv Q _ hN hp0
    | num => exact bareP_num s n f t a HI hn w B pb bv l last mv Q _ hN hp0
    | word => exact bareP_word s n f t a hs w B pb bv l last mv Q _ hN hp0
    | unit => exact bareP_unit s n f t a w B pb bv l last mv Q _ hN hp0
    | pr _ _ x y => exact bareP_pr s n x y f t a (patternAt_C (ih x (by simp))) (patternAt_C (ih y (by simp))) w B pb bv l last mv Q _ hN hp0
    | up => exact bareP_up s n L f t a hs hl (fun i hi => patternAt_C (ih _ (List.getElem_mem hi))) w B pb bv l last mv Q _ hN hp0
theorem atPC_all (HI : ItoaC) {nd : Nd} (h : Sm nd) : AtPC nd := patternAt_C (barePC_all HI h)
end Go.Proofs.YteneoapickhpdaaGreatDoor
namespace Go.Proofs.YteneoapickhpdaaGreatDoor
open Go Go.RowKit Go.ChangeMaps Un
def AtEC (nd : Nd) : Prop := ∀ (w : World) (B pb : Nat) (bv : Value) (l : List UInt8) (last : ByteArray) (mv : Value) (Q : Nat → Prop) (v : Value) (k : Nat), PN w B pb bv l last mv → PE w Q nd v → NT w pb Q → PM w pb mv → k ≤ 4 → (l ++ (sep last ++ atW nd k)).length ≤ 800000 → B ≤ pb →
  Calls Tryz.prog 83 #[.pointer (some ⟨pb, 0, none⟩), v, .int .i64 (k : Int)] w (AtPost B pb mv (l ++ (sep last ++ atW nd k)) w)
def BareEC (nd : Nd) : Prop := ∀ (w : World) (B pb : Nat) (bv : Value) (l : List UInt8) (last : ByteArray) (mv : Value) (Q : Nat → Prop) (v : Value), PN w B pb bv l last mv → PE w Q nd v → NT w pb Q → PM w pb mv → (l ++ (sep last ++ sh nd)).length ≤ 800000 → B ≤ pb →
  Calls Tryz.prog 136 #[.pointer (some ⟨pb, 0, none⟩), v] w (AtPost B pb mv (l ++ (sep last ++ sh nd)) w)
/-- It is an operation. -/
def isOp : Nd → Prop
  | .mk k _ _ _ _ _ _ => k = 7
section
variable {w : World} {B pb : Nat} {bv : Value} {l : List UInt8} {last : ByteArray} {mv : Value} {Q : Nat → Prop} {nd : Nd} {v : Value}
set_option maxRecDepth 100000 in
set_option maxHeartbeats 2000000 in
theorem levelOf_C (h : PE w Q nd v) (ho : ¬ isOp nd) : Calls Tryz.prog 134 #[v] w fun e w' => e = .returned (.int .i64 ((lv nd - 1 : Nat) : Int)) ∧ w = w' := by
  cases h with
  | op => exact absurd rfl ho
  | low s n f t a hs =>
    have h0_ := taExpr_Low_Fun
    have h1_ := taExpr_Low_Let
    have h2_ := taExpr_Low_If
    have h3_ := taExpr_Low_Match
    have h4_ := taExpr_Low_Call
    go_enter Tryz.func134, Tryz.ntmps134
    go_wp2_with fail
    go_ret
    exact ⟨by simp [lv], rfl⟩
  | up s n f t a hs =>
    have h0_ := taExpr_Up_Fun
    have h1_ := taExpr_Up_Let
    have h2_ := taExpr_Up_If
    have h3_ := taExpr_Up_Match
    have h4_ := taExpr_Up_Call
    go_enter Tryz.func134, Tryz.ntmps134
    go_wp2_with fail
    go_ret
    exact ⟨by simp [lv], rfl⟩
  | num s n f t a =>
    have h0_ := taExpr_Number_Fun
    have h1_ := taExpr_Number_Let
    have h2_ := taExpr_Number_If
    have h3_ := taExpr_Number_Match
    have h4_ := taExpr_Number_Call
    go_enter Tryz.func134, Tryz.ntmps134
    go_wp2_with fail
    go_ret
    exact ⟨by simp [lv], rfl⟩
  | word s n f t a hs =>
    have h0_ := taExpr_Bool_Fun
    have h1_ := taExpr_Bool_Let
    have h2_ := taExpr_Bool_If
    have h3_ := taExpr_Bool_Match
    have h4_ := taExpr_Bool_Call
    go_enter Tryz.func134, Tryz.ntmps134
    go_wp2_with fail
    go_ret
    exact ⟨by simp [lv], rfl⟩
  | unit s n f t a =>
    have h0_ := taExpr_Unit_Fun
    have h1_ := taExpr_Unit_Let
    have h2_ := taExpr_Unit_If
    have h3_ := taExpr_Unit_Match
    have h4_ := taExpr_Unit_Call
    go_enter Tryz.func134, Tryz.ntmps134
    go_wp2_with fail
    go_ret
    exact ⟨by simp [lv], rfl⟩
  | pr s n x y f t a vx vy hx hy =>
    have h0_ := taExpr_Pair_Fun
    have h1_ := taExpr_Pair_Let
    have h2_ := taExpr_Pair_If
    have h3_ := taExpr_Pair_Match
    have h4_ := taExpr_Pair_Call
    go_enter Tryz.func134, Tryz.ntmps134
    go_wp2_with fail
    go_ret
    exact ⟨by simp [lv], rfl⟩
  | of s n x y f t a vx vy hx hy =>
    have h0_ := taExpr_Typed_Fun
    have h1_ := taExpr_Typed_Let
    have h2_ := taExpr_Typed_If
    have h3_ := taExpr_Typed_Match
    have h4_ := taExpr_Typed_Call
    go_enter Tryz.func134, Tryz.ntmps134
    go_wp2_with fail
    go_ret
    exact ⟨by simp [lv], rfl⟩
  | call s n x y f t a vx vy hx hy =>
    have h0_ := taExpr_Call_Fun
    have h1_ := taExpr_Call_Let
    have h2_ := taExpr_Call_If
    have h3_ := taExpr_Call_Match
    have h4_ := taExpr_Call_Call
    go_enter Tryz.func134, Tryz.ntmps134
    go_wp2_with fail
    go_ret
    exact ⟨by simp [lv], rfl⟩
  | fn s n x f t a y vx hs hy hx =>
    have h0_ := taExpr_Fun_Fun
    have h1_ := taExpr_Fun_Let
    have h2_ := taExpr_Fun_If
    have h3_ := taExpr_Fun_Match
    have h4_ := taExpr_Fun_Call
    go_enter Tryz.func134, Tryz.ntmps134
    go_wp2_with fail
    go_ret
    exact ⟨by simp [lv], rfl⟩
  | lt c s n x z f t a y vx vz hc hs hy hx hz =>
    have h0_ := taExpr_Let_Fun
    have h1_ := taExpr_Let_Let
    have h2_ := taExpr_Let_If
    have h3_ := taExpr_Let_Match
    have h4_ := taExpr_Let_Call
    go_enter Tryz.func134, Tryz.ntmps134
    go_wp2_with fail
    go_ret
    exact ⟨by rcases hc with rfl | rfl <;> simp [lv], rfl⟩
  | ite s n x y z f t a vx vy vz hx hy hz =>
    have h0_ := taExpr_If_Fun
    have h1_ := taExpr_If_Let
    have h2_ := taExpr_If_If
    have h3_ := taExpr_If_Match
    have h4_ := taExpr_If_Call
    go_enter Tryz.func134, Tryz.ntmps134
    go_wp2_with fail
    go_ret
    exact ⟨by simp [lv], rfl⟩
  | mt s n x A f t a vx g sc vp ve h0 hg hz hc hx hp he =>
    have h0_ := taExpr_Match_Fun
    have h1_ := taExpr_Match_Let
    have h2_ := taExpr_Match_If
    have h3_ := taExpr_Match_Match
    have h4_ := taExpr_Match_Call
    go_enter Tryz.func134, Tryz.ntmps134
    go_wp2_with fail
    go_ret
    exact ⟨by simp [lv], rfl⟩
set_option maxRecDepth 100000 in
set_option maxHeartbeats 2000000 in
theorem closE_C (HB : BareEC nd) (h : PN w B pb bv l last mv) (hp : PE w Q nd v) (hq : NT w pb Q) (hm : PM w pb mv) (hl : (l ++ (sep last ++ sh nd)).length ≤ 800000) (hB : B ≤ pb) (b1 b2 : Nat) (h1 : Bx w b1 #[.pointer (some ⟨pb, 0, none⟩)]) (h2 : Bx w b2 #[v]) :
    Calls Tryz.prog 135 #[.pointer (some ⟨b1, 0, none⟩), .pointer (some ⟨b2, 0, none⟩)] w (AtPost B pb mv (l ++ (sep last ++ sh nd)) w) := by
  obtain ⟨tv, xv, rfl⟩ := hp.iface
  obtain ⟨c1, f1, z1⟩ := h1
  obtain ⟨c2, f2, z2⟩ := h2
  have HC := HB w B pb bv l last mv Q _ h hp hq hm hl hB
  clear hm
  go_enter Tryz.func135, Tryz.ntmps135
  go_wp2_with fail
  refine HC.mono ?_
  intro e w1 hp1
  have hp2 := hp1
  obtain ⟨rfl, _⟩ := hp1
  go_wp2_with fail
  go_end0
  exact hp2
theorem groupE_C (HB : BareEC nd) (k : Nat) (h : PN w B pb bv l last mv) (hp : PE w Q nd v) (hq : NT w pb Q) (hm : PM w pb mv) (hl : (l ++ (sep last ++ atW nd k)).length ≤ 800000) (hB : B ≤ pb) (b1 b2 : Nat) (h1 : Bx w b1 #[.pointer (some ⟨pb, 0, none⟩)]) (h2 : Bx w b2 #[v]) (n1 : b1 ≠ pb) (n2 : b2 ≠ pb) :
    Calls Tryz.prog 63 #[.pointer (some ⟨pb, 0, none⟩), .bool (decide (lv nd - 1 < k)), .func (.func 135) #[] #[.pointer (some ⟨b1, 0, none⟩), .pointer (some ⟨b2, 0, none⟩)]] w (AtPost B pb mv (l ++ (sep last ++ atW nd k)) w) := by
  obtain ⟨tv, xv, rfl⟩ := hp.iface
  exact group2_X (fun W => PE W Q nd (.iface tv (.agg xv)) ∧ NT W pb Q ∧ Bx W b1 #[.pointer (some ⟨pb, 0, none⟩)] ∧ Bx W b2 #[.iface tv (.agg xv)] ∧ PM W pb mv)
    (fun w w' i F => ⟨i.1.fnQ i.2.1 F, i.2.1.fn F, F.pn_ne i.2.2.1 n1 (by intro x hx c; simp at hx; subst hx; intro q; cases q), F.pn_ne i.2.2.2.1 n2 (by intro x hx c; simp at hx; subst hx; intro q; cases q), i.2.2.2.2.fn F⟩)
    (fun _ _ => by kernel_rfl) (fun w bv l last hN i hb => closE_C HB hN i.1 i.2.1 i.2.2.2.2 hb hB b1 b2 i.2.2.1 i.2.2.2.1) h ⟨hp, hq, h1, h2, hm⟩ hl
theorem noBin (h : PE w Q nd v) (ho : ¬ isOp nd) (w : World) : (Instr.typeAssert v 127 213 true).run Tryz.prog w = .ok (.tuple #[.agg #[.int .i64 0, .int .i64 0, .string ⟨#[]⟩, .nilIface, .nilIface], .bool false]) w := by
  cases h with
  | op => exact absurd rfl ho
  | low s n f t a hs => exact taExpr_Low_Binary _ w
  | up s n f t a hs => exact taExpr_Up_Binary _ w
  | num s n f t a => exact taExpr_Number_Binary _ w
  | word s n f t a hs => exact taExpr_Bool_Binary _ w
  | unit s n f t a => exact taExpr_Unit_Binary _ w
  | pr s n x y f t a vx vy hx hy => exact taExpr_Pair_Binary _ w
  | of s n x y f t a vx vy hx hy => exact taExpr_Typed_Binary _ w
  | call s n x y f t a vx vy hx hy => exact taExpr_Call_Binary _ w
  | fn s n x f t a y vx hs hy hx => exact taExpr_Fun_Binary _ w
  | lt c s n x z f t a y vx vz hc hs hy hx hz => exact taExpr_Let_Binary _ w
  | ite s n x y z f t a vx vy vz hx hy hz => exact taExpr_If_Binary _ w
  | mt s n x A f t a vx g sc vp ve h0 hg hz hc hx hp he => exact taExpr_Match_Binary _ w
set_option maxRecDepth 100000 in
set_option maxHeartbeats 10000000 in
theorem exprAt_bare (HB : BareEC nd) (ho : ¬ isOp nd) : AtEC nd := by
  intro w B pb bv l last mv Q v k h hp hq hm hk hl hB
  have hta := noBin hp ho
  obtain ⟨tv, xv, hv⟩ := hp.iface
  have hzp := h.lt
  have n1 : w.heap.size ≠ pb := by omega
  have n2 : w.heap.size + 1 ≠ pb := by omega
  obtain ⟨R, hR⟩ : ∃ R, R = AtPost B pb mv (l ++ (sep last ++ atW nd k)) w := ⟨_, rfl⟩
  obtain ⟨r, hr⟩ : ∃ r, r = lv nd - 1 := ⟨_, rfl⟩
  have hb0 : Below w.heap.size w (((w.alloc (.cells #[.pointer (some ⟨pb, 0, none⟩)] 66)).alloc (.cells #[v] 127)).alloc (.cells #[.int .i64 0, .int .i64 0, .string ⟨#[]⟩, .nilIface, .nilIface] 213)) := (((Below.refl _ _).alloc (Nat.le_refl _) _).alloc (by simp) _).alloc (by simp; omega) _
  have X1 := ((Bx.new w #[.pointer (some ⟨pb, 0, none⟩)] 66).alloc (.cells #[v] 127)).alloc (.cells #[.int .i64 0, .int .i64 0, .string ⟨#[]⟩, .nilIface, .nilIface] 213)
  have X2 : Bx (((w.alloc (.cells #[.pointer (some ⟨pb, 0, none⟩)] 66)).alloc (.cells #[v] 127)).alloc (.cells #[.int .i64 0, .int .i64 0, .string ⟨#[]⟩, .nilIface, .nilIface] 213)) (w.heap.size + 1) #[v] := (Bx.at _ #[v] _ _ (by simp)).alloc _
  have HN := h.bel hb0
  have HP := hp.bel hb0
  have F0 := FN.of (B := B) (pb := pb) hb0
  have HQ := hq.fn F0
  have HM := hm.fn F0
  have hmf : ∀ (fn : Fn) (first cap : Array Value) (w : World), (Instr.makeFunc fn first cap).run Tryz.prog w = .ok (.func fn first cap) w := fun _ _ _ _ => rfl
  subst hv
  rw [← hR]
  clear h hp hq hb0 hm
  go_enter Tryz.func83, Tryz.ntmps83
  go_wp2_with fail
  generalize (((w.alloc (.cells #[.pointer (some ⟨pb, 0, none⟩)] 66)).alloc (.cells #[.iface tv (.agg xv)] 127)).alloc (.cells #[.int .i64 0, .int .i64 0, .string ⟨#[]⟩, .nilIface, .nilIface] 213)) = W0 at X1 X2 HN HP F0 HQ HM ⊢
  generalize w.heap.size = b1 at n1 n2 X1 X2 ⊢
  have c1 := X1.c
  have f1 := X1.f
  have z1 := X1.z
  have c2 := X2.c
  have f2 := X2.f
  have z2 := X2.z
  have HRK : Hid (∀ W, Below W0.heap.size W0 W → Calls Tryz.prog 134 #[.iface tv (.agg xv)] W fun e w' => e = .returned (.int .i64 (r : Int)) ∧ Below W.heap.size W w') := hide (fun W hW => by rw [hr]; exact (levelOf_C (HP.bel hW) ho).mono fun e w' q => ⟨q.1, by rw [← q.2]; exact Below.refl _ _⟩)
  have HG : Hid (∀ W, Below W0.heap.size W0 W → Calls Tryz.prog 63 #[.pointer (some ⟨pb, 0, none⟩), .bool (decide (r < k)), .func (.func 135) #[] #[.pointer (some ⟨b1, 0, none⟩), .pointer (some ⟨b1 + 1, 0, none⟩)]] W fun e w' => e = .returned (.tuple #[]) ∧ R e w' ∧ w'.cell? ⟨b1, 0, none⟩ = some (.pointer (some ⟨pb, 0, none⟩)) ∧ w'.cell? ⟨b1 + 1, 0, none⟩ = some (.iface tv (.agg xv))) := hide (fun W hW => by
    have FW := FN.of (B := B) (pb := pb) hW
    rw [hr]
    refine (groupE_C HB k (HN.bel hW) (HP.bel hW) (HQ.fn FW) (HM.fn FW) hl hB b1 (b1 + 1) (X1.below hW) (X2.below hW) n1 n2).mono ?_
    rintro e w2 ⟨rfl, bv2, last2, hN2, fi2, hF2⟩
    have Y1 := hF2.pn_ne (X1.below hW) n1 (by intro x hx c; simp at hx; subst hx; intro q; cases q)
    have Y2 := hF2.pn_ne (X2.below hW) n2 (by intro x hx c; simp at hx; subst hx; intro q; cases q)
    refine ⟨rfl, ?_, Y1.c 0, Y2.c 0⟩
    rw [hR]
    exact ⟨rfl, bv2, last2, hN2, fi2, F0.trans (FW.trans hF2)⟩)
  clear HB HN HP HQ HM F0 hR hr hl X1 X2 n1 n2 hzp hk hB ho
  have k1 : W0.cell? ⟨b1, 0, none⟩ = some (.pointer (some ⟨pb, 0, none⟩)) := c1 0
  have k2 : W0.cell? ⟨b1 + 1, 0, none⟩ = some (.iface tv (.agg xv)) := c2 0
  clear c1 c2 f1 f2
  go_region_held3 (fun w' => w'.cell? ⟨b1, 0, none⟩ = some (.pointer (some ⟨pb, 0, none⟩)) ∧ w'.cell? ⟨b1 + 1, 0, none⟩ = some (.iface tv (.agg xv))) (first | go_keep | (simp [*])) (first | (go_at_call 134; refine (unhide HRK _ (Below.refl _ _).drew).mono ?_; rintro e w1 ⟨rfl, hb1⟩; have HB1 := hide (drew_bel hb1); have k3 : w1.cell? ⟨b1, 0, none⟩ = some (.pointer (some ⟨pb, 0, none⟩)) := (World.cell?_of_block (a := ⟨b1, 0, none⟩) ((unhide HB1).block b1 z1)).trans k1; have k4 : w1.cell? ⟨b1 + 1, 0, none⟩ = some (.iface tv (.agg xv)) := (World.cell?_of_block (a := ⟨b1 + 1, 0, none⟩) ((unhide HB1).block (b1 + 1) z2)).trans k2; clear hb1) | (go_at_call 63; with_reducible refine (unhide HG _ (unhide HB1)).mono ?_; rintro e w2 ⟨rfl, hR2, k5, k6⟩; have HR2 := hide hR2; clear hR2))
  all_goals (
    go_wp2_with fail
    go_end0
    exact unhide HR2)
end
end Go.Proofs.YteneoapickhpdaaGreatDoor
namespace Go.Proofs.YteneoapickhpdaaGreatDoor
open Go Go.RowKit Go.ChangeMaps Un
theorem PT.sh3 {w : World} {Q : Nat → Prop} {nd : Nd} {v : Value} (h : PT w Q nd v) : wT nd 0 = sh nd ∧ wT nd 1 = atP (lv nd, sh nd) 2 ∧ wT nd 2 = atP (lv nd, sh nd) 5 := by
  have key : ∀ {nd : Nd} {v : Value}, PT w Q nd v → wT nd 0 = sh nd → wT nd 1 = atP (lv nd, sh nd) 2 ∧ wT nd 2 = atP (lv nd, sh nd) 5 := by
    intro nd v h e
    obtain ⟨c, s, n, L, f, t, a⟩ := nd
    have h1 := par_rk s n L c f t a 1 h.kn (by omega)
    have h2 := par_rk s n L c f t a 2 h.kn (by omega)
    rw [h1, h2, e]
    unfold atP
    have : (rk (.mk c s n L f t a) < 1 ↔ lv (.mk c s n L f t a) < 2) ∧ (rk (.mk c s n L f t a) < 2 ↔ lv (.mk c s n L f t a) < 5) := by
      rcases h.kn with rfl | rfl | rfl | ⟨rfl, _⟩
      · simp [rk, lv]
      · simp [rk, lv]
      · simp [rk, lv]
      · by_cases hL : L = [] <;> simp [rk, lv, hL]
    simp only [this.1, this.2]
    exact ⟨trivial, trivial⟩
  have h0 : wT nd 0 = sh nd := by
    induction h with
    | var s n f t a x y hq => rw [wT_var]; simp [sh, joinE]
    | fn s n x y f t at_ u u' va vb ha hb iha ihb => rw [wT_fn, (key ha iha).1, ihb]; simp [sh, joinE, prL, gP]
    | pr s n x y f t at_ u u' va vb ha hb iha ihb => rw [wT_pr, iha, ihb, sh_pr]
    | up s n L f t at_ x y x' y' sa sc vs hu hrow hr ih =>
      rw [wT_up s hu, sh_up]
      congr 1
      unfold behindP
      rw [List.flatMap_map, List.flatMap_map]
      have : ∀ x ∈ L, (32 :: wT x 2) = 32 :: atP (lv x, sh x) 5 := fun x hx => by
        obtain ⟨i, hi, rfl⟩ := List.getElem_of_mem hx
        rw [(key (hr i hi) (ih i hi)).2]
      clear hrow hr ih
      induction L with
      | nil => rfl
      | cons y L ihL => simp only [List.flatMap_cons]; rw [this y (by simp), ihL (fun x hx => this x (by simp [hx]))]
  exact ⟨h0, key h h0⟩
theorem WN.sm {w : World} {Q : Nat → Prop} {nd : Nd} {v : Value} (h : PT w Q nd v) : Sm nd → WN nd := by
  induction h with
  | var s n f t a x y hq => rintro ⟨_, _, _, _, _, _, _, h1, _, _, _⟩; exact .var _ _ _ _ _ h1
  | fn s n x y f t at_ u u' va vb ha hb iha ihb => rintro ⟨_, _, _, _, _, _, _, _, _, _, h4⟩; exact .fn _ _ _ _ _ _ _ (iha (h4 x (by simp))) (ihb (h4 y (by simp)))
  | pr s n x y f t at_ u u' va vb ha hb iha ihb => rintro ⟨_, _, _, _, _, _, _, _, _, _, h4⟩; exact .pr _ _ _ _ _ _ _ (iha (h4 x (by simp))) (ihb (h4 y (by simp)))
  | up s n L f t at_ x y x' y' sa sc vs hu hrow hr ih => rintro ⟨_, _, _, _, _, _, _, h1, _, h3, h4⟩; exact .up _ _ _ _ _ _ h1 h3 (fun i hi => ih i hi (h4 _ (List.getElem_mem hi)))
theorem sh_upE (s : ByteArray) (n f t a : Nat) : sh (.mk 2 s n [] f t a) = s.toList := by simp [sh, joinE, prL, behindP]
theorem sh_of (s : ByteArray) (n : Nat) (x y : Nd) (f t a : Nat) : sh (.mk 14 s n [x, y] f t a) = 40 :: (sh x ++ ([32, 58, 32] ++ (sh y ++ [41]))) := by simp [sh, joinE, prL, gP]
theorem sh_call (s : ByteArray) (n : Nat) (x y : Nd) (f t a : Nat) : sh (.mk 8 s n [x, y] f t a) = atW x 3 ++ (32 :: atW y 4) := by rw [atW_at x 3 (by omega), atW_at y 4 (by omega)]; simp [sh, joinE, prL, gP]
theorem sh_fn (s : ByteArray) (n : Nat) (x : Nd) (f t a : Nat) : sh (.mk 9 s n [x] f t a) = [102, 117, 110, 32] ++ (s.toList ++ ([32, 45, 62, 32] ++ sh x)) := by simp [sh, joinE, prL, gP]
theorem sh_if (s : ByteArray) (n : Nat) (x y z : Nd) (f t a : Nat) : sh (.mk 12 s n [x, y, z] f t a) = [105, 102, 32] ++ (sh x ++ ([32, 116, 104, 101, 110, 32] ++ (sh y ++ ([32, 101, 108, 115, 101, 32] ++ sh z)))) := by simp [sh, joinE, prL, gP]
def letS (r : Bool) (s x : List UInt8) : List UInt8 := [108, 101, 116, 32] ++ ((if r then [114, 101, 99, 32] else []) ++ (s ++ ([32, 61, 32] ++ x)))
theorem sh_let (c : Nat) (hc : c = 10 ∨ c = 11) (s : ByteArray) (n : Nat) (x z : Nd) (f t a : Nat) : sh (.mk c s n [x, z] f t a) = letS (c == 11) s.toList (sh x) ++ ([32, 105, 110, 32] ++ sh z) := by rcases hc with rfl | rfl <;> simp [sh, joinE, prL, gP, letS]
section
variable {w : World}
def AtomEC (nd : Nd) : Prop := ∀ (w : World) (B pb : Nat) (bv : Value) (l : List UInt8) (last : ByteArray) (mv : Value) (Q : Nat → Prop) (v : Value), PN w B pb bv l last mv → PE w Q nd v → NT w pb Q → PM w pb mv → (l ++ (sep last ++ sh nd)).length ≤ 800000 → B ≤ pb →
  Calls Tryz.prog 158 #[.pointer (some ⟨pb, 0, none⟩), v] w (AtPost B pb mv (l ++ (sep last ++ sh nd)) w)
set_option maxRecDepth 100000 in
set_option maxHeartbeats 2000000 in
theorem atomE_low (s : ByteArray) (n f t a : Nat) (hss : s.size ≤ 1000) : AtomEC (.mk 1 s n [] f t a) := by
  intro w B pb bv l last mv Q v h hp hq hm hl hB
  cases hp with
  | low s n f t a hs =>
  have esh := sh_low s n f t a
  rw [esh] at hl ⊢
  simp only [List.length_append, List.length_cons, List.length_nil] at hl
  have ha0 := taExpr_Low_Low
  obtain ⟨n1, n2, n3⟩ := low_ne hs
  have hfi := fine_low hs
  have hbW : Below w.heap.size w (w.alloc (.cells #[.int .i64 (f : Int), .int .i64 (t : Int), .string s] 195)) := ((Below.refl _ _).alloc (Nat.le_refl _) (.cells #[.int .i64 (f : Int), .int .i64 (t : Int), .string s] 195))
  have zW : (w.alloc (.cells #[.int .i64 (f : Int), .int .i64 (t : Int), .string s] 195)).heap.size = w.heap.size + 1 := by simp
  have FW := FN.of (B := B) (pb := pb) hbW
  have hzp := h.lt
  have N0 := hide (h.bel hbW)
  have F0 := hide (FN.refl B pb (w.alloc (.cells #[.int .i64 (f : Int), .int .i64 (t : Int), .string s] 195)))
  have BXb := hide (Bx.at w #[.int .i64 (f : Int), .int .i64 (t : Int), .string s] 195 (w.heap.size) (by simp))
  have HM := hide (hm.fn FW)
  clear hm
  have HQ := hide (hq.fn FW)
  clear h hq
  go_enter Tryz.func158, Tryz.ntmps158
  have zp1 := (unhide N0).lt
  rw [zW] at zp1
  have hb1 : Below (w.alloc (.cells #[.int .i64 (f : Int), .int .i64 (t : Int), .string s] 195)).heap.size (w.alloc (.cells #[.int .i64 (f : Int), .int .i64 (t : Int), .string s] 195)) ((w.alloc (.cells #[.int .i64 (f : Int), .int .i64 (t : Int), .string s] 195)).alloc (.cells #[.string s] 9)) := (Below.refl _ _).alloc (Nat.le_refl _) _
  have eT1 : putsL l last [s] = (l ++ (sep last ++ s.toList)) := by
    show (putL' l last s) = _
    rw [putLoose rfl n1 n2 n3]
  have HP1 := puts_C ((unhide N0).bel hb1) [s] (by intro t ht; simp only [List.mem_cons, List.not_mem_nil, or_false] at ht; rcases ht with rfl <;> first | decide | assumption) (by simp) (by first | omega | (simp only [List.length_append, List.length_cons, List.length_nil]; omega)) (w.heap.size + 1) (Bx.at (w.alloc (.cells #[.int .i64 (f : Int), .int .i64 (t : Int), .string s] 195)) #[.string s] 9 (w.heap.size + 1) (by simp)) (by omega) (Or.inr ((Bx.at (w.alloc (.cells #[.int .i64 (f : Int), .int .i64 (t : Int), .string s] 195)) #[.string s] 9 (w.heap.size + 1) (by simp)).nby (by intro x hx c; simp at hx; subst hx; intro q; cases q)))
  rw [eT1] at HP1
  go_wp2_with fail
  refine HP1.mono ?_
  rintro e w1 ⟨rfl, bvw1, hN, hF⟩
  have N2 : Hid (PN w1 B pb bvw1 (l ++ (sep last ++ s.toList)) s mv) := hide hN
  have F3 := hide ((unhide F0).trans ((FN.of hb1).trans hF))
  have zw1 := (unhide F3).size
  rw [zW] at zw1
  clear hN hF HP1 hb1 eT1 N0 F0
  go_wp2_with fail
  go_end0
  refine ⟨rfl, bvw1, s, ?_, hfi, FW.trans (unhide F3)⟩
  show PN w1 B pb bvw1 (l ++ (sep last ++ s.toList)) s mv
  rw [show l ++ (sep last ++ s.toList) = (l ++ (sep last ++ s.toList)) by simp]
  exact unhide N2
set_option maxRecDepth 100000 in
set_option maxHeartbeats 2000000 in
theorem atomE_up (s : ByteArray) (n f t a : Nat) (hss : s.size ≤ 1000) : AtomEC (.mk 2 s n [] f t a) := by
  intro w B pb bv l last mv Q v h hp hq hm hl hB
  cases hp with
  | up s n f t a hs =>
  have esh := sh_upE s n f t a
  rw [esh] at hl ⊢
  simp only [List.length_append, List.length_cons, List.length_nil] at hl
  have ha0 := taExpr_Up_Low
  have ha1 := taExpr_Up_Up
  obtain ⟨n1, n2, n3⟩ := up_ne hs
  have hfi := fine_up hs
  have hbW : Below w.heap.size w (w.alloc (.cells #[.int .i64 (f : Int), .int .i64 (t : Int), .string s] 240)) := ((Below.refl _ _).alloc (Nat.le_refl _) (.cells #[.int .i64 (f : Int), .int .i64 (t : Int), .string s] 240))
  have zW : (w.alloc (.cells #[.int .i64 (f : Int), .int .i64 (t : Int), .string s] 240)).heap.size = w.heap.size + 1 := by simp
  have FW := FN.of (B := B) (pb := pb) hbW
  have hzp := h.lt
  have N0 := hide (h.bel hbW)
  have F0 := hide (FN.refl B pb (w.alloc (.cells #[.int .i64 (f : Int), .int .i64 (t : Int), .string s] 240)))
  have BXb := hide (Bx.at w #[.int .i64 (f : Int), .int .i64 (t : Int), .string s] 240 (w.heap.size) (by simp))
  have HM := hide (hm.fn FW)
  clear hm
  have HQ := hide (hq.fn FW)
  clear h hq
  go_enter Tryz.func158, Tryz.ntmps158
  have zp1 := (unhide N0).lt
  rw [zW] at zp1
  have hb1 : Below (w.alloc (.cells #[.int .i64 (f : Int), .int .i64 (t : Int), .string s] 240)).heap.size (w.alloc (.cells #[.int .i64 (f : Int), .int .i64 (t : Int), .string s] 240)) ((w.alloc (.cells #[.int .i64 (f : Int), .int .i64 (t : Int), .string s] 240)).alloc (.cells #[.string s] 9)) := (Below.refl _ _).alloc (Nat.le_refl _) _
  have eT1 : putsL l last [s] = (l ++ (sep last ++ s.toList)) := by
    show (putL' l last s) = _
    rw [putLoose rfl n1 n2 n3]
  have HP1 := puts_C ((unhide N0).bel hb1) [s] (by intro t ht; simp only [List.mem_cons, List.not_mem_nil, or_false] at ht; rcases ht with rfl <;> first | decide | assumption) (by simp) (by first | omega | (simp only [List.length_append, List.length_cons, List.length_nil]; omega)) (w.heap.size + 1) (Bx.at (w.alloc (.cells #[.int .i64 (f : Int), .int .i64 (t : Int), .string s] 240)) #[.string s] 9 (w.heap.size + 1) (by simp)) (by omega) (Or.inr ((Bx.at (w.alloc (.cells #[.int .i64 (f : Int), .int .i64 (t : Int), .string s] 240)) #[.string s] 9 (w.heap.size + 1) (by simp)).nby (by intro x hx c; simp at hx; subst hx; intro q; cases q)))
  rw [eT1] at HP1
  go_wp2_with fail
  refine HP1.mono ?_
  rintro e w1 ⟨rfl, bvw1, hN, hF⟩
  have N2 : Hid (PN w1 B pb bvw1 (l ++ (sep last ++ s.toList)) s mv) := hide hN
  have F3 := hide ((unhide F0).trans ((FN.of hb1).trans hF))
  have zw1 := (unhide F3).size
  rw [zW] at zw1
  clear hN hF HP1 hb1 eT1 N0 F0
  go_wp2_with fail
  go_end0
  refine ⟨rfl, bvw1, s, ?_, hfi, FW.trans (unhide F3)⟩
  show PN w1 B pb bvw1 (l ++ (sep last ++ s.toList)) s mv
  rw [show l ++ (sep last ++ s.toList) = (l ++ (sep last ++ s.toList)) by simp]
  exact unhide N2
set_option maxRecDepth 100000 in
set_option maxHeartbeats 2000000 in
theorem atomE_unit (s : ByteArray) (n f t a : Nat) : AtomEC (.mk 5 s n [] f t a) := by
  intro w B pb bv l last mv Q v h hp hq hm hl hB
  cases hp with
  | unit s n f t a =>
  have esh := sh_unit s n f t a
  rw [esh] at hl ⊢
  simp only [List.length_append, List.length_cons, List.length_nil] at hl
  have ha0 := taExpr_Unit_Low
  have ha1 := taExpr_Unit_Up
  have ha2 := taExpr_Unit_Number
  have ha3 := taExpr_Unit_Bool
  have ha4 := taExpr_Unit_Unit
  have hbW : Below w.heap.size w (w.alloc (.cells #[.int .i64 (f : Int), .int .i64 (t : Int)] 242)) := ((Below.refl _ _).alloc (Nat.le_refl _) (.cells #[.int .i64 (f : Int), .int .i64 (t : Int)] 242))
  have zW : (w.alloc (.cells #[.int .i64 (f : Int), .int .i64 (t : Int)] 242)).heap.size = w.heap.size + 1 := by simp
  have FW := FN.of (B := B) (pb := pb) hbW
  have hzp := h.lt
  have N0 := hide (h.bel hbW)
  have F0 := hide (FN.refl B pb (w.alloc (.cells #[.int .i64 (f : Int), .int .i64 (t : Int)] 242)))
  have BXb := hide (Bx.at w #[.int .i64 (f : Int), .int .i64 (t : Int)] 242 (w.heap.size) (by simp))
  have HM := hide (hm.fn FW)
  clear hm
  have HQ := hide (hq.fn FW)
  clear h hq
  go_enter Tryz.func158, Tryz.ntmps158
  have zp1 := (unhide N0).lt
  rw [zW] at zp1
  have hb1 : Below (w.alloc (.cells #[.int .i64 (f : Int), .int .i64 (t : Int)] 242)).heap.size (w.alloc (.cells #[.int .i64 (f : Int), .int .i64 (t : Int)] 242)) ((w.alloc (.cells #[.int .i64 (f : Int), .int .i64 (t : Int)] 242)).alloc (.cells #[.string kOpn, .string kClose] 9)) := (Below.refl _ _).alloc (Nat.le_refl _) _
  have eT1 : putsL l last [kOpn, kClose] = ((l ++ (sep last ++ [40])) ++ [41]) := by
    show (putL' (putL' l last kOpn) kOpn kClose) = _
    rw [putLoose (toList_mk [40]) (by decide) (by decide) (by decide), putTight (toList_mk [41]) (by decide)]
  have HP1 := puts_C ((unhide N0).bel hb1) [kOpn, kClose] (by intro t ht; simp only [List.mem_cons, List.not_mem_nil, or_false] at ht; rcases ht with rfl | rfl <;> first | decide | assumption) (by simp) (by first | omega | (simp only [List.length_append, List.length_cons, List.length_nil]; omega)) (w.heap.size + 1) (Bx.at (w.alloc (.cells #[.int .i64 (f : Int), .int .i64 (t : Int)] 242)) #[.string kOpn, .string kClose] 9 (w.heap.size + 1) (by simp)) (by omega) (Or.inr ((Bx.at (w.alloc (.cells #[.int .i64 (f : Int), .int .i64 (t : Int)] 242)) #[.string kOpn, .string kClose] 9 (w.heap.size + 1) (by simp)).nby (by intro x hx c; simp at hx; subst hx; intro q; cases q)))
  rw [eT1] at HP1
  go_wp2_with fail
  refine HP1.mono ?_
  rintro e w1 ⟨rfl, bvw1, hN, hF⟩
  have N2 : Hid (PN w1 B pb bvw1 ((l ++ (sep last ++ [40])) ++ [41]) kClose mv) := hide hN
  have F3 := hide ((unhide F0).trans ((FN.of hb1).trans hF))
  have zw1 := (unhide F3).size
  rw [zW] at zw1
  clear hN hF HP1 hb1 eT1 N0 F0
  go_wp2_with fail
  go_end0
  refine ⟨rfl, bvw1, kClose, ?_, fine_mk (toList_mk [41]) (by decide) (by decide), FW.trans (unhide F3)⟩
  show PN w1 B pb bvw1 (l ++ (sep last ++ [40, 41])) kClose mv
  rw [show l ++ (sep last ++ [40, 41]) = ((l ++ (sep last ++ [40])) ++ [41]) by simp]
  exact unhide N2
set_option maxRecDepth 100000 in
set_option maxHeartbeats 2000000 in
theorem atomE_word (s : ByteArray) (n f t a : Nat) : AtomEC (.mk 4 s n [] f t a) := by
  intro w B pb bv l last mv Q v h hp hq hm hl hB
  cases hp with
  | word s n f t a hs =>
  have esh := sh_word s n f t a
  rw [esh] at hl ⊢
  simp only [List.length_append, List.length_cons, List.length_nil] at hl
  have ha0 := taExpr_Bool_Low
  have ha1 := taExpr_Bool_Up
  have ha2 := taExpr_Bool_Number
  have ha3 := taExpr_Bool_Bool
  have htl := tl_of hs
  generalize (s.toList == [116, 114, 117, 101]) = bb at htl ⊢
  have hws : (boolW bb).size ≤ 1000 := by unfold boolW; split <;> decide
  have hwn : (boolW bb).toList ≠ [41] ∧ (boolW bb).toList ≠ [44] ∧ (boolW bb).toList ≠ [59] ∧ Fine (boolW bb) := by
    unfold Fine boolW
    cases bb <;> simp [ByteArray.toList_eq]
  obtain ⟨n1, n2, n3, hfi⟩ := hwn
  rw [← htl] at hl ⊢
  clear htl
  have hbW : Below w.heap.size w (w.alloc (.cells #[.int .i64 (f : Int), .int .i64 (t : Int), .bool bb] 201)) := ((Below.refl _ _).alloc (Nat.le_refl _) (.cells #[.int .i64 (f : Int), .int .i64 (t : Int), .bool bb] 201))
  have zW : (w.alloc (.cells #[.int .i64 (f : Int), .int .i64 (t : Int), .bool bb] 201)).heap.size = w.heap.size + 1 := by simp
  have FW := FN.of (B := B) (pb := pb) hbW
  have hzp := h.lt
  have N0 := hide (h.bel hbW)
  have F0 := hide (FN.refl B pb (w.alloc (.cells #[.int .i64 (f : Int), .int .i64 (t : Int), .bool bb] 201)))
  have BXb := hide (Bx.at w #[.int .i64 (f : Int), .int .i64 (t : Int), .bool bb] 201 (w.heap.size) (by simp))
  have HM := hide (hm.fn FW)
  clear hm
  have HQ := hide (hq.fn FW)
  clear h hq
  go_enter Tryz.func158, Tryz.ntmps158
  go_wp2_with fail
  refine (formatBool_C bb).mono ?_
  rintro e w' ⟨rfl, rfl⟩
  have zp1 := (unhide N0).lt
  rw [zW] at zp1
  have hb1 : Below (w.alloc (.cells #[.int .i64 (f : Int), .int .i64 (t : Int), .bool bb] 201)).heap.size (w.alloc (.cells #[.int .i64 (f : Int), .int .i64 (t : Int), .bool bb] 201)) ((w.alloc (.cells #[.int .i64 (f : Int), .int .i64 (t : Int), .bool bb] 201)).alloc (.cells #[.string (boolW bb)] 9)) := (Below.refl _ _).alloc (Nat.le_refl _) _
  have eT1 : putsL l last [(boolW bb)] = (l ++ (sep last ++ (boolW bb).toList)) := by
    show (putL' l last (boolW bb)) = _
    rw [putLoose rfl n1 n2 n3]
  have HP1 := puts_C ((unhide N0).bel hb1) [(boolW bb)] (by intro t ht; simp only [List.mem_cons, List.not_mem_nil, or_false] at ht; rcases ht with rfl <;> first | decide | assumption) (by simp) (by first | omega | (simp only [List.length_append, List.length_cons, List.length_nil]; omega)) (w.heap.size + 1) (Bx.at (w.alloc (.cells #[.int .i64 (f : Int), .int .i64 (t : Int), .bool bb] 201)) #[.string (boolW bb)] 9 (w.heap.size + 1) (by simp)) (by omega) (Or.inr ((Bx.at (w.alloc (.cells #[.int .i64 (f : Int), .int .i64 (t : Int), .bool bb] 201)) #[.string (boolW bb)] 9 (w.heap.size + 1) (by simp)).nby (by intro x hx c; simp at hx; subst hx; intro q; cases q)))
  rw [eT1] at HP1
  go_wp2_with fail
  refine HP1.mono ?_
  rintro e w1 ⟨rfl, bvw1, hN, hF⟩
  have N2 : Hid (PN w1 B pb bvw1 (l ++ (sep last ++ (boolW bb).toList)) (boolW bb) mv) := hide hN
  have F3 := hide ((unhide F0).trans ((FN.of hb1).trans hF))
  have zw1 := (unhide F3).size
  rw [zW] at zw1
  clear hN hF HP1 hb1 eT1 N0 F0
  go_wp2_with fail
  go_end0
  refine ⟨rfl, bvw1, (boolW bb), ?_, hfi, FW.trans (unhide F3)⟩
  show PN w1 B pb bvw1 (l ++ (sep last ++ (boolW bb).toList)) (boolW bb) mv
  rw [show l ++ (sep last ++ (boolW bb).toList) = (l ++ (sep last ++ (boolW bb).toList)) by simp]
  exact unhide N2
set_option maxRecDepth 100000 in
set_option maxHeartbeats 2000000 in
theorem atomE_num (s : ByteArray) (n f t a : Nat) (HI : ItoaC) (hn : n < 1000000000) : AtomEC (.mk 3 s n [] f t a) := by
  intro w B pb bv l last mv Q v h hp hq hm hl hB
  cases hp with
  | num s n f t a =>
  have esh := sh_num s n f t a
  rw [esh] at hl ⊢
  simp only [List.length_append, List.length_cons, List.length_nil] at hl
  have ha0 := taExpr_Number_Low
  have ha1 := taExpr_Number_Up
  have ha2 := taExpr_Number_Number
  obtain ⟨n1, n2, n3, n4, n5⟩ := dec_ne n
  have hfi : Fine (bs (dec n)) := by unfold Fine; rw [bs_list]; exact ⟨n4, n5⟩
  rw [← bs_list (dec n)] at n1 n2 n3
  have hds : (bs (dec n)).size ≤ 1000 := by rw [bs_size]; have := dec_pow 8 n (by omega); omega
  have hbW : Below w.heap.size w (w.alloc (.cells #[.int .i64 (f : Int), .int .i64 (t : Int), .int .i64 (n : Int)] 198)) := ((Below.refl _ _).alloc (Nat.le_refl _) (.cells #[.int .i64 (f : Int), .int .i64 (t : Int), .int .i64 (n : Int)] 198))
  have zW : (w.alloc (.cells #[.int .i64 (f : Int), .int .i64 (t : Int), .int .i64 (n : Int)] 198)).heap.size = w.heap.size + 1 := by simp
  have FW := FN.of (B := B) (pb := pb) hbW
  have hzp := h.lt
  have N0 := hide (h.bel hbW)
  have F0 := hide (FN.refl B pb (w.alloc (.cells #[.int .i64 (f : Int), .int .i64 (t : Int), .int .i64 (n : Int)] 198)))
  have BXb := hide (Bx.at w #[.int .i64 (f : Int), .int .i64 (t : Int), .int .i64 (n : Int)] 198 (w.heap.size) (by simp))
  have HM := hide (hm.fn FW)
  clear hm
  have HQ := hide (hq.fn FW)
  clear h hq
  go_enter Tryz.func158, Tryz.ntmps158
  go_wp2_with fail
  refine (HI _ n hn (unhide HQ).p).mono ?_
  rintro e wi ⟨rfl, hbi⟩
  have Ni := hide ((unhide N0).bel hbi)
  have Fi := hide ((unhide F0).trans (FN.of hbi))
  have zi := hbi.size
  rw [zW] at zi
  clear N0 F0 hbi
  have zp1 := (unhide Ni).lt
  have hb1 : Below wi.heap.size wi (wi.alloc (.cells #[.string (bs (dec n))] 9)) := (Below.refl _ _).alloc (Nat.le_refl _) _
  have eT1 : putsL l last [(bs (dec n))] = (l ++ (sep last ++ (bs (dec n)).toList)) := by
    show (putL' l last (bs (dec n))) = _
    rw [putLoose rfl n1 n2 n3]
  have HP1 := puts_C ((unhide Ni).bel hb1) [(bs (dec n))] (by intro t ht; simp only [List.mem_cons, List.not_mem_nil, or_false] at ht; rcases ht with rfl <;> first | decide | assumption) (by simp) (by first | omega | (simp only [List.length_append, List.length_cons, List.length_nil]; omega)) (wi.heap.size) (Bx.at wi #[.string (bs (dec n))] 9 (wi.heap.size) (by simp)) (by omega) (Or.inr ((Bx.at wi #[.string (bs (dec n))] 9 (wi.heap.size) (by simp)).nby (by intro x hx c; simp at hx; subst hx; intro q; cases q)))
  rw [eT1] at HP1
  go_wp2_with fail
  refine HP1.mono ?_
  rintro e w1 ⟨rfl, bvw1, hN, hF⟩
  have N2 : Hid (PN w1 B pb bvw1 (l ++ (sep last ++ (bs (dec n)).toList)) (bs (dec n)) mv) := hide hN
  have F3 := hide ((unhide Fi).trans ((FN.of hb1).trans hF))
  have zw1 := (unhide F3).size
  rw [zW] at zw1
  clear hN hF HP1 hb1 eT1 Ni Fi
  go_wp2_with fail
  go_end0
  refine ⟨rfl, bvw1, (bs (dec n)), ?_, hfi, FW.trans (unhide F3)⟩
  show PN w1 B pb bvw1 (l ++ (sep last ++ dec n)) (bs (dec n)) mv
  rw [show l ++ (sep last ++ dec n) = (l ++ (sep last ++ (bs (dec n)).toList)) by rw [bs_list]]
  exact unhide N2
set_option maxRecDepth 100000 in
set_option maxHeartbeats 2000000 in
theorem atomE_pr (s : ByteArray) (n : Nat) (x y : Nd) (f t a : Nat) (Hx : AtEC x) (Hy : AtEC y) : AtomEC (.mk 6 s n [x, y] f t a) := by
  intro w B pb bv l last mv Q v h hp hq hm hl hB
  cases hp with
  | lt => rename_i hc _ _ _ _; exfalso; omega
  | pr s n x y f t a vx vy hx hy =>
  have hx0 := hx
  obtain ⟨tx, xx, rfl⟩ := hx.iface
  have hy0 := hy
  obtain ⟨ty, xy, rfl⟩ := hy.iface
  have esh := sh_pr s n x y f t a
  rw [esh] at hl ⊢
  simp only [List.length_append, List.length_cons, List.length_nil] at hl
  have ha0 := taExpr_Pair_Low
  have ha1 := taExpr_Pair_Up
  have ha2 := taExpr_Pair_Number
  have ha3 := taExpr_Pair_Bool
  have ha4 := taExpr_Pair_Unit
  have ha5 := taExpr_Pair_Pair
  have hbW : Below w.heap.size w (w.alloc (.cells #[.int .i64 (f : Int), .int .i64 (t : Int), .iface tx (.agg xx), .iface ty (.agg xy)] 244)) := ((Below.refl _ _).alloc (Nat.le_refl _) (.cells #[.int .i64 (f : Int), .int .i64 (t : Int), .iface tx (.agg xx), .iface ty (.agg xy)] 244))
  have zW : (w.alloc (.cells #[.int .i64 (f : Int), .int .i64 (t : Int), .iface tx (.agg xx), .iface ty (.agg xy)] 244)).heap.size = w.heap.size + 1 := by simp
  have FW := FN.of (B := B) (pb := pb) hbW
  have hzp := h.lt
  have N0 := hide (h.bel hbW)
  have F0 := hide (FN.refl B pb (w.alloc (.cells #[.int .i64 (f : Int), .int .i64 (t : Int), .iface tx (.agg xx), .iface ty (.agg xy)] 244)))
  have BXb := hide (Bx.at w #[.int .i64 (f : Int), .int .i64 (t : Int), .iface tx (.agg xx), .iface ty (.agg xy)] 244 (w.heap.size) (by simp))
  have Vx := hide (hx0.bel hbW)
  have Vy := hide (hy0.bel hbW)
  have HM := hide (hm.fn FW)
  clear hm
  have HQ := hide (hq.fn FW)
  clear h hq
  go_enter Tryz.func158, Tryz.ntmps158
  have zp1 := (unhide N0).lt
  rw [zW] at zp1
  have hb1 : Below (w.alloc (.cells #[.int .i64 (f : Int), .int .i64 (t : Int), .iface tx (.agg xx), .iface ty (.agg xy)] 244)).heap.size (w.alloc (.cells #[.int .i64 (f : Int), .int .i64 (t : Int), .iface tx (.agg xx), .iface ty (.agg xy)] 244)) ((w.alloc (.cells #[.int .i64 (f : Int), .int .i64 (t : Int), .iface tx (.agg xx), .iface ty (.agg xy)] 244)).alloc (.cells #[.string kOpn] 9)) := (Below.refl _ _).alloc (Nat.le_refl _) _
  have eT1 : putsL l last [kOpn] = (l ++ (sep last ++ [40])) := by
    show (putL' l last kOpn) = _
    rw [putLoose (toList_mk [40]) (by decide) (by decide) (by decide)]
  have HP1 := puts_C ((unhide N0).bel hb1) [kOpn] (by intro t ht; simp only [List.mem_cons, List.not_mem_nil, or_false] at ht; rcases ht with rfl <;> first | decide | assumption) (by simp) (by first | omega | (simp only [List.length_append, List.length_cons, List.length_nil]; omega)) (w.heap.size + 1) (Bx.at (w.alloc (.cells #[.int .i64 (f : Int), .int .i64 (t : Int), .iface tx (.agg xx), .iface ty (.agg xy)] 244)) #[.string kOpn] 9 (w.heap.size + 1) (by simp)) (by omega) (Or.inr ((Bx.at (w.alloc (.cells #[.int .i64 (f : Int), .int .i64 (t : Int), .iface tx (.agg xx), .iface ty (.agg xy)] 244)) #[.string kOpn] 9 (w.heap.size + 1) (by simp)).nby (by intro x hx c; simp at hx; subst hx; intro q; cases q)))
  rw [eT1] at HP1
  go_wp2_with fail
  refine HP1.mono ?_
  rintro e w1 ⟨rfl, bvw1, hN, hF⟩
  have N2 : Hid (PN w1 B pb bvw1 (l ++ (sep last ++ [40])) kOpn mv) := hide hN
  have F3 := hide ((unhide F0).trans ((FN.of hb1).trans hF))
  have zw1 := (unhide F3).size
  rw [zW] at zw1
  clear hN hF HP1 hb1 eT1 N0 F0
  obtain ⟨c4, fc4, zc4⟩ := (unhide F3).pn_ne (unhide BXb) (by omega) (by intro x hx c; simp at hx; subst hx; intro q; cases q)
  have HS5 := Hx w1 B pb _ _ kOpn mv Q _ 0 (unhide N2) ((unhide Vx).fnQ (unhide HQ) (unhide F3)) ((unhide HQ).fn (unhide F3)) ((unhide HM).fn (unhide F3)) (by omega) (by rw [sep_opn]; rw [atW_0]; simp only [List.length_append, List.length_cons, List.length_nil]; omega) hB
  rw [sep_opn] at HS5
  rw [atW_0] at HS5
  go_wp2_with fail
  clear c4 fc4 zc4
  refine HS5.mono ?_
  rintro e w2 ⟨rfl, bvw2, lastw2, hN, fiw2, hF⟩
  have N6 := hide hN
  have F7 := hide ((unhide F3).trans hF)
  have zw2 := (unhide F7).size
  rw [zW] at zw2
  clear hN hF HS5 N2 F3
  have zp8 := (unhide N6).lt
  have hb8 : Below w2.heap.size w2 (w2.alloc (.cells #[.string kComma] 9)) := (Below.refl _ _).alloc (Nat.le_refl _) _
  have eT8 : putsL ((l ++ (sep last ++ [40])) ++ ([] ++ sh x)) lastw2 [kComma] = (((l ++ (sep last ++ [40])) ++ ([] ++ sh x)) ++ [44]) := by
    show (putL' ((l ++ (sep last ++ [40])) ++ ([] ++ sh x)) lastw2 kComma) = _
    rw [putTight (toList_mk [44]) (by decide)]
  have HP8 := puts_C ((unhide N6).bel hb8) [kComma] (by intro t ht; simp only [List.mem_cons, List.not_mem_nil, or_false] at ht; rcases ht with rfl <;> first | decide | assumption) (by simp) (by first | omega | (simp only [List.length_append, List.length_cons, List.length_nil]; omega)) (w2.heap.size) (Bx.at w2 #[.string kComma] 9 (w2.heap.size) (by simp)) (by omega) (Or.inr ((Bx.at w2 #[.string kComma] 9 (w2.heap.size) (by simp)).nby (by intro x hx c; simp at hx; subst hx; intro q; cases q)))
  rw [eT8] at HP8
  go_wp2_with fail
  refine HP8.mono ?_
  rintro e w3 ⟨rfl, bvw3, hN, hF⟩
  have N9 : Hid (PN w3 B pb bvw3 (((l ++ (sep last ++ [40])) ++ ([] ++ sh x)) ++ [44]) kComma mv) := hide hN
  have F10 := hide ((unhide F7).trans ((FN.of hb8).trans hF))
  have zw3 := (unhide F10).size
  rw [zW] at zw3
  clear hN hF HP8 hb8 eT8 N6 F7
  obtain ⟨c11, fc11, zc11⟩ := (unhide F10).pn_ne (unhide BXb) (by omega) (by intro x hx c; simp at hx; subst hx; intro q; cases q)
  have HS12 := Hy w3 B pb _ _ kComma mv Q _ 0 (unhide N9) ((unhide Vy).fnQ (unhide HQ) (unhide F10)) ((unhide HQ).fn (unhide F10)) ((unhide HM).fn (unhide F10)) (by omega) (by rw [sepTok (toList_mk [44]) (by decide) (by decide)]; rw [atW_0]; simp only [List.length_append, List.length_cons, List.length_nil]; omega) hB
  rw [sepTok (toList_mk [44]) (by decide) (by decide)] at HS12
  rw [atW_0] at HS12
  go_wp2_with fail
  clear c11 fc11 zc11
  refine HS12.mono ?_
  rintro e w4 ⟨rfl, bvw4, lastw4, hN, fiw4, hF⟩
  have N13 := hide hN
  have F14 := hide ((unhide F10).trans hF)
  have zw4 := (unhide F14).size
  rw [zW] at zw4
  clear hN hF HS12 N9 F10
  have zp15 := (unhide N13).lt
  have hb15 : Below w4.heap.size w4 (w4.alloc (.cells #[.string kClose] 9)) := (Below.refl _ _).alloc (Nat.le_refl _) _
  have eT15 : putsL ((((l ++ (sep last ++ [40])) ++ ([] ++ sh x)) ++ [44]) ++ ([32] ++ sh y)) lastw4 [kClose] = (((((l ++ (sep last ++ [40])) ++ ([] ++ sh x)) ++ [44]) ++ ([32] ++ sh y)) ++ [41]) := by
    show (putL' ((((l ++ (sep last ++ [40])) ++ ([] ++ sh x)) ++ [44]) ++ ([32] ++ sh y)) lastw4 kClose) = _
    rw [putTight (toList_mk [41]) (by decide)]
  have HP15 := puts_C ((unhide N13).bel hb15) [kClose] (by intro t ht; simp only [List.mem_cons, List.not_mem_nil, or_false] at ht; rcases ht with rfl <;> first | decide | assumption) (by simp) (by first | omega | (simp only [List.length_append, List.length_cons, List.length_nil]; omega)) (w4.heap.size) (Bx.at w4 #[.string kClose] 9 (w4.heap.size) (by simp)) (by omega) (Or.inr ((Bx.at w4 #[.string kClose] 9 (w4.heap.size) (by simp)).nby (by intro x hx c; simp at hx; subst hx; intro q; cases q)))
  rw [eT15] at HP15
  go_wp2_with fail
  refine HP15.mono ?_
  rintro e w5 ⟨rfl, bvw5, hN, hF⟩
  have N16 : Hid (PN w5 B pb bvw5 (((((l ++ (sep last ++ [40])) ++ ([] ++ sh x)) ++ [44]) ++ ([32] ++ sh y)) ++ [41]) kClose mv) := hide hN
  have F17 := hide ((unhide F14).trans ((FN.of hb15).trans hF))
  have zw5 := (unhide F17).size
  rw [zW] at zw5
  clear hN hF HP15 hb15 eT15 N13 F14
  go_wp2_with fail
  go_end0
  refine ⟨rfl, bvw5, kClose, ?_, fine_mk (toList_mk [41]) (by decide) (by decide), FW.trans (unhide F17)⟩
  show PN w5 B pb bvw5 (l ++ (sep last ++ 40 :: (sh x ++ ([44, 32] ++ (sh y ++ [41]))))) kClose mv
  rw [show l ++ (sep last ++ 40 :: (sh x ++ ([44, 32] ++ (sh y ++ [41])))) = (((((l ++ (sep last ++ [40])) ++ ([] ++ sh x)) ++ [44]) ++ ([32] ++ sh y)) ++ [41]) by simp]
  exact unhide N16
set_option maxRecDepth 100000 in
set_option maxHeartbeats 2000000 in
theorem atomE_of (s : ByteArray) (n : Nat) (x y : Nd) (f t a : Nat) (Hx : AtEC x) (Hy : AtC y) : AtomEC (.mk 14 s n [x, y] f t a) := by
  intro w B pb bv l last mv Q v h hp hq hm hl hB
  cases hp with
  | lt => rename_i hc _ _ _ _; exfalso; omega
  | of s n x y f t a vx vy hx hy =>
  have hx0 := hx
  obtain ⟨tx, xx, rfl⟩ := hx.iface
  have hy0 := hy
  obtain ⟨ty, xy, rfl⟩ := hy.iface
  have esh := sh_of s n x y f t a
  rw [esh] at hl ⊢
  simp only [List.length_append, List.length_cons, List.length_nil] at hl
  have ha0 := taExpr_Typed_Low
  have ha1 := taExpr_Typed_Up
  have ha2 := taExpr_Typed_Number
  have ha3 := taExpr_Typed_Bool
  have ha4 := taExpr_Typed_Unit
  have ha5 := taExpr_Typed_Pair
  have ha6 := taExpr_Typed_Typed
  have hT0 := hy0.sh3.1
  rw [← hT0] at hl ⊢
  have HT0 := hide hT0
  clear hT0
  have hbW : Below w.heap.size w (w.alloc (.cells #[.int .i64 (f : Int), .int .i64 (t : Int), .iface tx (.agg xx), .iface ty (.agg xy)] 246)) := ((Below.refl _ _).alloc (Nat.le_refl _) (.cells #[.int .i64 (f : Int), .int .i64 (t : Int), .iface tx (.agg xx), .iface ty (.agg xy)] 246))
  have zW : (w.alloc (.cells #[.int .i64 (f : Int), .int .i64 (t : Int), .iface tx (.agg xx), .iface ty (.agg xy)] 246)).heap.size = w.heap.size + 1 := by simp
  have FW := FN.of (B := B) (pb := pb) hbW
  have hzp := h.lt
  have N0 := hide (h.bel hbW)
  have F0 := hide (FN.refl B pb (w.alloc (.cells #[.int .i64 (f : Int), .int .i64 (t : Int), .iface tx (.agg xx), .iface ty (.agg xy)] 246)))
  have BXb := hide (Bx.at w #[.int .i64 (f : Int), .int .i64 (t : Int), .iface tx (.agg xx), .iface ty (.agg xy)] 246 (w.heap.size) (by simp))
  have Vx := hide (hx0.bel hbW)
  have Vy := hide (hy0.bel hbW)
  have HM := hide (hm.fn FW)
  clear hm
  have HQ := hide (hq.fn FW)
  clear h hq
  go_enter Tryz.func158, Tryz.ntmps158
  have zp1 := (unhide N0).lt
  rw [zW] at zp1
  have hb1 : Below (w.alloc (.cells #[.int .i64 (f : Int), .int .i64 (t : Int), .iface tx (.agg xx), .iface ty (.agg xy)] 246)).heap.size (w.alloc (.cells #[.int .i64 (f : Int), .int .i64 (t : Int), .iface tx (.agg xx), .iface ty (.agg xy)] 246)) ((w.alloc (.cells #[.int .i64 (f : Int), .int .i64 (t : Int), .iface tx (.agg xx), .iface ty (.agg xy)] 246)).alloc (.cells #[.string kOpn] 9)) := (Below.refl _ _).alloc (Nat.le_refl _) _
  have eT1 : putsL l last [kOpn] = (l ++ (sep last ++ [40])) := by
    show (putL' l last kOpn) = _
    rw [putLoose (toList_mk [40]) (by decide) (by decide) (by decide)]
  have HP1 := puts_C ((unhide N0).bel hb1) [kOpn] (by intro t ht; simp only [List.mem_cons, List.not_mem_nil, or_false] at ht; rcases ht with rfl <;> first | decide | assumption) (by simp) (by first | omega | (simp only [List.length_append, List.length_cons, List.length_nil]; omega)) (w.heap.size + 1) (Bx.at (w.alloc (.cells #[.int .i64 (f : Int), .int .i64 (t : Int), .iface tx (.agg xx), .iface ty (.agg xy)] 246)) #[.string kOpn] 9 (w.heap.size + 1) (by simp)) (by omega) (Or.inr ((Bx.at (w.alloc (.cells #[.int .i64 (f : Int), .int .i64 (t : Int), .iface tx (.agg xx), .iface ty (.agg xy)] 246)) #[.string kOpn] 9 (w.heap.size + 1) (by simp)).nby (by intro x hx c; simp at hx; subst hx; intro q; cases q)))
  rw [eT1] at HP1
  go_wp2_with fail
  refine HP1.mono ?_
  rintro e w1 ⟨rfl, bvw1, hN, hF⟩
  have N2 : Hid (PN w1 B pb bvw1 (l ++ (sep last ++ [40])) kOpn mv) := hide hN
  have F3 := hide ((unhide F0).trans ((FN.of hb1).trans hF))
  have zw1 := (unhide F3).size
  rw [zW] at zw1
  clear hN hF HP1 hb1 eT1 N0 F0
  obtain ⟨c4, fc4, zc4⟩ := (unhide F3).pn_ne (unhide BXb) (by omega) (by intro x hx c; simp at hx; subst hx; intro q; cases q)
  have HS5 := Hx w1 B pb _ _ kOpn mv Q _ 0 (unhide N2) ((unhide Vx).fnQ (unhide HQ) (unhide F3)) ((unhide HQ).fn (unhide F3)) ((unhide HM).fn (unhide F3)) (by omega) (by rw [sep_opn]; rw [atW_0]; simp only [List.length_append, List.length_cons, List.length_nil]; omega) hB
  rw [sep_opn] at HS5
  rw [atW_0] at HS5
  go_wp2_with fail
  clear c4 fc4 zc4
  refine HS5.mono ?_
  rintro e w2 ⟨rfl, bvw2, lastw2, hN, fiw2, hF⟩
  have N6 := hide hN
  have F7 := hide ((unhide F3).trans hF)
  have zw2 := (unhide F7).size
  rw [zW] at zw2
  clear hN hF HS5 N2 F3
  have zp8 := (unhide N6).lt
  have hb8 : Below w2.heap.size w2 (w2.alloc (.cells #[.string kColon] 9)) := (Below.refl _ _).alloc (Nat.le_refl _) _
  have eT8 : putsL ((l ++ (sep last ++ [40])) ++ ([] ++ sh x)) lastw2 [kColon] = (((l ++ (sep last ++ [40])) ++ ([] ++ sh x)) ++ ([32] ++ [58])) := by
    show (putL' ((l ++ (sep last ++ [40])) ++ ([] ++ sh x)) lastw2 kColon) = _
    rw [putLoose (toList_mk [58]) (by decide) (by decide) (by decide), sep_fine fiw2]
  have HP8 := puts_C ((unhide N6).bel hb8) [kColon] (by intro t ht; simp only [List.mem_cons, List.not_mem_nil, or_false] at ht; rcases ht with rfl <;> first | decide | assumption) (by simp) (by first | omega | (simp only [List.length_append, List.length_cons, List.length_nil]; omega)) (w2.heap.size) (Bx.at w2 #[.string kColon] 9 (w2.heap.size) (by simp)) (by omega) (Or.inr ((Bx.at w2 #[.string kColon] 9 (w2.heap.size) (by simp)).nby (by intro x hx c; simp at hx; subst hx; intro q; cases q)))
  rw [eT8] at HP8
  go_wp2_with fail
  refine HP8.mono ?_
  rintro e w3 ⟨rfl, bvw3, hN, hF⟩
  have N9 : Hid (PN w3 B pb bvw3 (((l ++ (sep last ++ [40])) ++ ([] ++ sh x)) ++ ([32] ++ [58])) kColon mv) := hide hN
  have F10 := hide ((unhide F7).trans ((FN.of hb8).trans hF))
  have zw3 := (unhide F10).size
  rw [zW] at zw3
  clear hN hF HP8 hb8 eT8 N6 F7
  obtain ⟨c11, fc11, zc11⟩ := (unhide F10).pn_ne (unhide BXb) (by omega) (by intro x hx c; simp at hx; subst hx; intro q; cases q)
  have HS12 := Hy w3 B pb _ _ kColon mv Q _ 0 (unhide N9) ((unhide Vy).fnQ (unhide HQ).q (unhide F10)) ((unhide HQ).fn (unhide F10)).q (by omega) (by rw [sepTok (toList_mk [58]) (by decide) (by decide)]; simp only [List.length_append, List.length_cons, List.length_nil]; omega) hB
  rw [sepTok (toList_mk [58]) (by decide) (by decide)] at HS12
  go_wp2_with fail
  clear c11 fc11 zc11
  refine HS12.mono ?_
  rintro e w4 ⟨rfl, bvw4, lastw4, hN, fiw4, hF⟩
  have N13 := hide hN
  have F14 := hide ((unhide F10).trans hF)
  have zw4 := (unhide F14).size
  rw [zW] at zw4
  clear hN hF HS12 N9 F10
  have zp15 := (unhide N13).lt
  have hb15 : Below w4.heap.size w4 (w4.alloc (.cells #[.string kClose] 9)) := (Below.refl _ _).alloc (Nat.le_refl _) _
  have eT15 : putsL ((((l ++ (sep last ++ [40])) ++ ([] ++ sh x)) ++ ([32] ++ [58])) ++ ([32] ++ wT y 0)) lastw4 [kClose] = (((((l ++ (sep last ++ [40])) ++ ([] ++ sh x)) ++ ([32] ++ [58])) ++ ([32] ++ wT y 0)) ++ [41]) := by
    show (putL' ((((l ++ (sep last ++ [40])) ++ ([] ++ sh x)) ++ ([32] ++ [58])) ++ ([32] ++ wT y 0)) lastw4 kClose) = _
    rw [putTight (toList_mk [41]) (by decide)]
  have HP15 := puts_C ((unhide N13).bel hb15) [kClose] (by intro t ht; simp only [List.mem_cons, List.not_mem_nil, or_false] at ht; rcases ht with rfl <;> first | decide | assumption) (by simp) (by first | omega | (simp only [List.length_append, List.length_cons, List.length_nil]; omega)) (w4.heap.size) (Bx.at w4 #[.string kClose] 9 (w4.heap.size) (by simp)) (by omega) (Or.inr ((Bx.at w4 #[.string kClose] 9 (w4.heap.size) (by simp)).nby (by intro x hx c; simp at hx; subst hx; intro q; cases q)))
  rw [eT15] at HP15
  go_wp2_with fail
  refine HP15.mono ?_
  rintro e w5 ⟨rfl, bvw5, hN, hF⟩
  have N16 : Hid (PN w5 B pb bvw5 (((((l ++ (sep last ++ [40])) ++ ([] ++ sh x)) ++ ([32] ++ [58])) ++ ([32] ++ wT y 0)) ++ [41]) kClose mv) := hide hN
  have F17 := hide ((unhide F14).trans ((FN.of hb15).trans hF))
  have zw5 := (unhide F17).size
  rw [zW] at zw5
  clear hN hF HP15 hb15 eT15 N13 F14
  go_wp2_with fail
  go_end0
  refine ⟨rfl, bvw5, kClose, ?_, fine_mk (toList_mk [41]) (by decide) (by decide), FW.trans (unhide F17)⟩
  show PN w5 B pb bvw5 (l ++ (sep last ++ 40 :: (sh x ++ ([32, 58, 32] ++ (wT y 0 ++ [41]))))) kClose mv
  rw [show l ++ (sep last ++ 40 :: (sh x ++ ([32, 58, 32] ++ (wT y 0 ++ [41])))) = (((((l ++ (sep last ++ [40])) ++ ([] ++ sh x)) ++ ([32] ++ [58])) ++ ([32] ++ wT y 0)) ++ [41]) by simp]
  exact unhide N16
set_option maxRecDepth 100000 in
set_option maxHeartbeats 2000000 in
theorem bareE_atom {nd : Nd} (HA : AtomEC nd) (hk : ∀ k s n L f t a, nd = .mk k s n L f t a → k = 1 ∨ k = 2 ∨ k = 3 ∨ k = 4 ∨ k = 5 ∨ k = 6 ∨ k = 14) : BareEC nd := by
  intro w B pb bv l last mv Q v h hp hq hm hl hB
  have HC := HA w B pb bv l last mv Q v h hp hq hm hl hB
  clear hm
  cases hp with
  | low s n f t a hs =>
    have h0_ := taExpr_Low_Fun
    have h1_ := taExpr_Low_Let
    have h2_ := taExpr_Low_If
    have h3_ := taExpr_Low_Match
    have h4_ := taExpr_Low_Call
    go_enter Tryz.func136, Tryz.ntmps136
    go_wp2_with fail
    refine HC.mono ?_
    intro e w1 hp1
    have hp2 := hp1
    obtain ⟨rfl, _⟩ := hp1
    go_wp2_with fail
    go_end0
    exact hp2
  | up s n f t a hs =>
    have h0_ := taExpr_Up_Fun
    have h1_ := taExpr_Up_Let
    have h2_ := taExpr_Up_If
    have h3_ := taExpr_Up_Match
    have h4_ := taExpr_Up_Call
    go_enter Tryz.func136, Tryz.ntmps136
    go_wp2_with fail
    refine HC.mono ?_
    intro e w1 hp1
    have hp2 := hp1
    obtain ⟨rfl, _⟩ := hp1
    go_wp2_with fail
    go_end0
    exact hp2
  | num s n f t a =>
    have h0_ := taExpr_Number_Fun
    have h1_ := taExpr_Number_Let
    have h2_ := taExpr_Number_If
    have h3_ := taExpr_Number_Match
    have h4_ := taExpr_Number_Call
    go_enter Tryz.func136, Tryz.ntmps136
    go_wp2_with fail
    refine HC.mono ?_
    intro e w1 hp1
    have hp2 := hp1
    obtain ⟨rfl, _⟩ := hp1
    go_wp2_with fail
    go_end0
    exact hp2
  | word s n f t a hs =>
    have h0_ := taExpr_Bool_Fun
    have h1_ := taExpr_Bool_Let
    have h2_ := taExpr_Bool_If
    have h3_ := taExpr_Bool_Match
    have h4_ := taExpr_Bool_Call
    go_enter Tryz.func136, Tryz.ntmps136
    go_wp2_with fail
    refine HC.mono ?_
    intro e w1 hp1
    have hp2 := hp1
    obtain ⟨rfl, _⟩ := hp1
    go_wp2_with fail
    go_end0
    exact hp2
  | unit s n f t a =>
    have h0_ := taExpr_Unit_Fun
    have h1_ := taExpr_Unit_Let
    have h2_ := taExpr_Unit_If
    have h3_ := taExpr_Unit_Match
    have h4_ := taExpr_Unit_Call
    go_enter Tryz.func136, Tryz.ntmps136
    go_wp2_with fail
    refine HC.mono ?_
    intro e w1 hp1
    have hp2 := hp1
    obtain ⟨rfl, _⟩ := hp1
    go_wp2_with fail
    go_end0
    exact hp2
  | pr s n x y f t a vx vy hx hy =>
    have h0_ := taExpr_Pair_Fun
    have h1_ := taExpr_Pair_Let
    have h2_ := taExpr_Pair_If
    have h3_ := taExpr_Pair_Match
    have h4_ := taExpr_Pair_Call
    go_enter Tryz.func136, Tryz.ntmps136
    go_wp2_with fail
    refine HC.mono ?_
    intro e w1 hp1
    have hp2 := hp1
    obtain ⟨rfl, _⟩ := hp1
    go_wp2_with fail
    go_end0
    exact hp2
  | of s n x y f t a vx vy hx hy =>
    have h0_ := taExpr_Typed_Fun
    have h1_ := taExpr_Typed_Let
    have h2_ := taExpr_Typed_If
    have h3_ := taExpr_Typed_Match
    have h4_ := taExpr_Typed_Call
    go_enter Tryz.func136, Tryz.ntmps136
    go_wp2_with fail
    refine HC.mono ?_
    intro e w1 hp1
    have hp2 := hp1
    obtain ⟨rfl, _⟩ := hp1
    go_wp2_with fail
    go_end0
    exact hp2
  | lt c => have := hk _ _ _ _ _ _ _ rfl; rename_i hc _ _ _ _; omega
  | _ => have := hk _ _ _ _ _ _ _ rfl; omega
end
end Go.Proofs.YteneoapickhpdaaGreatDoor
namespace Go.Proofs.YteneoapickhpdaaGreatDoor
open Go Go.RowKit Go.ChangeMaps Un
set_option maxRecDepth 100000 in
set_option maxHeartbeats 1000000 in
theorem small_48 : SmallP 48 := by
  intro w
  rw [show dec 48 = [52, 56] by rw [dec_step _ (by decide), dec_digit _ (by decide)]; rfl]
  go_enter Tryz.func160, Tryz.ntmps160
  go_wp2_with fail
  go_ret
  exact ⟨by kernel_rfl, rfl⟩
set_option maxRecDepth 100000 in
set_option maxHeartbeats 1000000 in
theorem small_49 : SmallP 49 := by
  intro w
  rw [show dec 49 = [52, 57] by rw [dec_step _ (by decide), dec_digit _ (by decide)]; rfl]
  go_enter Tryz.func160, Tryz.ntmps160
  go_wp2_with fail
  go_ret
  exact ⟨by kernel_rfl, rfl⟩
set_option maxRecDepth 100000 in
set_option maxHeartbeats 1000000 in
theorem small_50 : SmallP 50 := by
  intro w
  rw [show dec 50 = [53, 48] by rw [dec_step _ (by decide), dec_digit _ (by decide)]; rfl]
  go_enter Tryz.func160, Tryz.ntmps160
  go_wp2_with fail
  go_ret
  exact ⟨by kernel_rfl, rfl⟩
set_option maxRecDepth 100000 in
set_option maxHeartbeats 1000000 in
theorem small_51 : SmallP 51 := by
  intro w
  rw [show dec 51 = [53, 49] by rw [dec_step _ (by decide), dec_digit _ (by decide)]; rfl]
  go_enter Tryz.func160, Tryz.ntmps160
  go_wp2_with fail
  go_ret
  exact ⟨by kernel_rfl, rfl⟩
set_option maxRecDepth 100000 in
set_option maxHeartbeats 1000000 in
theorem small_52 : SmallP 52 := by
  intro w
  rw [show dec 52 = [53, 50] by rw [dec_step _ (by decide), dec_digit _ (by decide)]; rfl]
  go_enter Tryz.func160, Tryz.ntmps160
  go_wp2_with fail
  go_ret
  exact ⟨by kernel_rfl, rfl⟩
set_option maxRecDepth 100000 in
set_option maxHeartbeats 1000000 in
theorem small_53 : SmallP 53 := by
  intro w
  rw [show dec 53 = [53, 51] by rw [dec_step _ (by decide), dec_digit _ (by decide)]; rfl]
  go_enter Tryz.func160, Tryz.ntmps160
  go_wp2_with fail
  go_ret
  exact ⟨by kernel_rfl, rfl⟩
set_option maxRecDepth 100000 in
set_option maxHeartbeats 1000000 in
theorem small_54 : SmallP 54 := by
  intro w
  rw [show dec 54 = [53, 52] by rw [dec_step _ (by decide), dec_digit _ (by decide)]; rfl]
  go_enter Tryz.func160, Tryz.ntmps160
  go_wp2_with fail
  go_ret
  exact ⟨by kernel_rfl, rfl⟩
set_option maxRecDepth 100000 in
set_option maxHeartbeats 1000000 in
theorem small_55 : SmallP 55 := by
  intro w
  rw [show dec 55 = [53, 53] by rw [dec_step _ (by decide), dec_digit _ (by decide)]; rfl]
  go_enter Tryz.func160, Tryz.ntmps160
  go_wp2_with fail
  go_ret
  exact ⟨by kernel_rfl, rfl⟩
set_option maxRecDepth 100000 in
set_option maxHeartbeats 1000000 in
theorem small_56 : SmallP 56 := by
  intro w
  rw [show dec 56 = [53, 54] by rw [dec_step _ (by decide), dec_digit _ (by decide)]; rfl]
  go_enter Tryz.func160, Tryz.ntmps160
  go_wp2_with fail
  go_ret
  exact ⟨by kernel_rfl, rfl⟩
set_option maxRecDepth 100000 in
set_option maxHeartbeats 1000000 in
theorem small_57 : SmallP 57 := by
  intro w
  rw [show dec 57 = [53, 55] by rw [dec_step _ (by decide), dec_digit _ (by decide)]; rfl]
  go_enter Tryz.func160, Tryz.ntmps160
  go_wp2_with fail
  go_ret
  exact ⟨by kernel_rfl, rfl⟩
set_option maxRecDepth 100000 in
set_option maxHeartbeats 1000000 in
theorem small_58 : SmallP 58 := by
  intro w
  rw [show dec 58 = [53, 56] by rw [dec_step _ (by decide), dec_digit _ (by decide)]; rfl]
  go_enter Tryz.func160, Tryz.ntmps160
  go_wp2_with fail
  go_ret
  exact ⟨by kernel_rfl, rfl⟩
set_option maxRecDepth 100000 in
set_option maxHeartbeats 1000000 in
theorem small_59 : SmallP 59 := by
  intro w
  rw [show dec 59 = [53, 57] by rw [dec_step _ (by decide), dec_digit _ (by decide)]; rfl]
  go_enter Tryz.func160, Tryz.ntmps160
  go_wp2_with fail
  go_ret
  exact ⟨by kernel_rfl, rfl⟩
set_option maxRecDepth 100000 in
set_option maxHeartbeats 1000000 in
theorem small_60 : SmallP 60 := by
  intro w
  rw [show dec 60 = [54, 48] by rw [dec_step _ (by decide), dec_digit _ (by decide)]; rfl]
  go_enter Tryz.func160, Tryz.ntmps160
  go_wp2_with fail
  go_ret
  exact ⟨by kernel_rfl, rfl⟩
set_option maxRecDepth 100000 in
set_option maxHeartbeats 1000000 in
theorem small_61 : SmallP 61 := by
  intro w
  rw [show dec 61 = [54, 49] by rw [dec_step _ (by decide), dec_digit _ (by decide)]; rfl]
  go_enter Tryz.func160, Tryz.ntmps160
  go_wp2_with fail
  go_ret
  exact ⟨by kernel_rfl, rfl⟩
set_option maxRecDepth 100000 in
set_option maxHeartbeats 1000000 in
theorem small_62 : SmallP 62 := by
  intro w
  rw [show dec 62 = [54, 50] by rw [dec_step _ (by decide), dec_digit _ (by decide)]; rfl]
  go_enter Tryz.func160, Tryz.ntmps160
  go_wp2_with fail
  go_ret
  exact ⟨by kernel_rfl, rfl⟩
set_option maxRecDepth 100000 in
set_option maxHeartbeats 1000000 in
theorem small_63 : SmallP 63 := by
  intro w
  rw [show dec 63 = [54, 51] by rw [dec_step _ (by decide), dec_digit _ (by decide)]; rfl]
  go_enter Tryz.func160, Tryz.ntmps160
  go_wp2_with fail
  go_ret
  exact ⟨by kernel_rfl, rfl⟩
set_option maxRecDepth 100000 in
set_option maxHeartbeats 1000000 in
theorem small_64 : SmallP 64 := by
  intro w
  rw [show dec 64 = [54, 52] by rw [dec_step _ (by decide), dec_digit _ (by decide)]; rfl]
  go_enter Tryz.func160, Tryz.ntmps160
  go_wp2_with fail
  go_ret
  exact ⟨by kernel_rfl, rfl⟩
set_option maxRecDepth 100000 in
set_option maxHeartbeats 1000000 in
theorem small_65 : SmallP 65 := by
  intro w
  rw [show dec 65 = [54, 53] by rw [dec_step _ (by decide), dec_digit _ (by decide)]; rfl]
  go_enter Tryz.func160, Tryz.ntmps160
  go_wp2_with fail
  go_ret
  exact ⟨by kernel_rfl, rfl⟩
set_option maxRecDepth 100000 in
set_option maxHeartbeats 1000000 in
theorem small_66 : SmallP 66 := by
  intro w
  rw [show dec 66 = [54, 54] by rw [dec_step _ (by decide), dec_digit _ (by decide)]; rfl]
  go_enter Tryz.func160, Tryz.ntmps160
  go_wp2_with fail
  go_ret
  exact ⟨by kernel_rfl, rfl⟩
set_option maxRecDepth 100000 in
set_option maxHeartbeats 1000000 in
theorem small_67 : SmallP 67 := by
  intro w
  rw [show dec 67 = [54, 55] by rw [dec_step _ (by decide), dec_digit _ (by decide)]; rfl]
  go_enter Tryz.func160, Tryz.ntmps160
  go_wp2_with fail
  go_ret
  exact ⟨by kernel_rfl, rfl⟩
set_option maxRecDepth 100000 in
set_option maxHeartbeats 1000000 in
theorem small_68 : SmallP 68 := by
  intro w
  rw [show dec 68 = [54, 56] by rw [dec_step _ (by decide), dec_digit _ (by decide)]; rfl]
  go_enter Tryz.func160, Tryz.ntmps160
  go_wp2_with fail
  go_ret
  exact ⟨by kernel_rfl, rfl⟩
set_option maxRecDepth 100000 in
set_option maxHeartbeats 1000000 in
theorem small_69 : SmallP 69 := by
  intro w
  rw [show dec 69 = [54, 57] by rw [dec_step _ (by decide), dec_digit _ (by decide)]; rfl]
  go_enter Tryz.func160, Tryz.ntmps160
  go_wp2_with fail
  go_ret
  exact ⟨by kernel_rfl, rfl⟩
set_option maxRecDepth 100000 in
set_option maxHeartbeats 1000000 in
theorem small_70 : SmallP 70 := by
  intro w
  rw [show dec 70 = [55, 48] by rw [dec_step _ (by decide), dec_digit _ (by decide)]; rfl]
  go_enter Tryz.func160, Tryz.ntmps160
  go_wp2_with fail
  go_ret
  exact ⟨by kernel_rfl, rfl⟩
set_option maxRecDepth 100000 in
set_option maxHeartbeats 1000000 in
theorem small_71 : SmallP 71 := by
  intro w
  rw [show dec 71 = [55, 49] by rw [dec_step _ (by decide), dec_digit _ (by decide)]; rfl]
  go_enter Tryz.func160, Tryz.ntmps160
  go_wp2_with fail
  go_ret
  exact ⟨by kernel_rfl, rfl⟩
set_option maxRecDepth 100000 in
set_option maxHeartbeats 1000000 in
theorem small_72 : SmallP 72 := by
  intro w
  rw [show dec 72 = [55, 50] by rw [dec_step _ (by decide), dec_digit _ (by decide)]; rfl]
  go_enter Tryz.func160, Tryz.ntmps160
  go_wp2_with fail
  go_ret
  exact ⟨by kernel_rfl, rfl⟩
set_option maxRecDepth 100000 in
set_option maxHeartbeats 1000000 in
theorem small_73 : SmallP 73 := by
  intro w
  rw [show dec 73 = [55, 51] by rw [dec_step _ (by decide), dec_digit _ (by decide)]; rfl]
  go_enter Tryz.func160, Tryz.ntmps160
  go_wp2_with fail
  go_ret
  exact ⟨by kernel_rfl, rfl⟩
set_option maxRecDepth 100000 in
set_option maxHeartbeats 1000000 in
theorem small_74 : SmallP 74 := by
  intro w
  rw [show dec 74 = [55, 52] by rw [dec_step _ (by decide), dec_digit _ (by decide)]; rfl]
  go_enter Tryz.func160, Tryz.ntmps160
  go_wp2_with fail
  go_ret
  exact ⟨by kernel_rfl, rfl⟩
set_option maxRecDepth 100000 in
set_option maxHeartbeats 1000000 in
theorem small_75 : SmallP 75 := by
  intro w
  rw [show dec 75 = [55, 53] by rw [dec_step _ (by decide), dec_digit _ (by decide)]; rfl]
  go_enter Tryz.func160, Tryz.ntmps160
  go_wp2_with fail
  go_ret
  exact ⟨by kernel_rfl, rfl⟩
set_option maxRecDepth 100000 in
set_option maxHeartbeats 1000000 in
theorem small_76 : SmallP 76 := by
  intro w
  rw [show dec 76 = [55, 54] by rw [dec_step _ (by decide), dec_digit _ (by decide)]; rfl]
  go_enter Tryz.func160, Tryz.ntmps160
  go_wp2_with fail
  go_ret
  exact ⟨by kernel_rfl, rfl⟩
set_option maxRecDepth 100000 in
set_option maxHeartbeats 1000000 in
theorem small_77 : SmallP 77 := by
  intro w
  rw [show dec 77 = [55, 55] by rw [dec_step _ (by decide), dec_digit _ (by decide)]; rfl]
  go_enter Tryz.func160, Tryz.ntmps160
  go_wp2_with fail
  go_ret
  exact ⟨by kernel_rfl, rfl⟩
set_option maxRecDepth 100000 in
set_option maxHeartbeats 1000000 in
theorem small_78 : SmallP 78 := by
  intro w
  rw [show dec 78 = [55, 56] by rw [dec_step _ (by decide), dec_digit _ (by decide)]; rfl]
  go_enter Tryz.func160, Tryz.ntmps160
  go_wp2_with fail
  go_ret
  exact ⟨by kernel_rfl, rfl⟩
set_option maxRecDepth 100000 in
set_option maxHeartbeats 1000000 in
theorem small_79 : SmallP 79 := by
  intro w
  rw [show dec 79 = [55, 57] by rw [dec_step _ (by decide), dec_digit _ (by decide)]; rfl]
  go_enter Tryz.func160, Tryz.ntmps160
  go_wp2_with fail
  go_ret
  exact ⟨by kernel_rfl, rfl⟩
set_option maxRecDepth 100000 in
set_option maxHeartbeats 1000000 in
theorem small_80 : SmallP 80 := by
  intro w
  rw [show dec 80 = [56, 48] by rw [dec_step _ (by decide), dec_digit _ (by decide)]; rfl]
  go_enter Tryz.func160, Tryz.ntmps160
  go_wp2_with fail
  go_ret
  exact ⟨by kernel_rfl, rfl⟩
set_option maxRecDepth 100000 in
set_option maxHeartbeats 1000000 in
theorem small_81 : SmallP 81 := by
  intro w
  rw [show dec 81 = [56, 49] by rw [dec_step _ (by decide), dec_digit _ (by decide)]; rfl]
  go_enter Tryz.func160, Tryz.ntmps160
  go_wp2_with fail
  go_ret
  exact ⟨by kernel_rfl, rfl⟩
set_option maxRecDepth 100000 in
set_option maxHeartbeats 1000000 in
theorem small_82 : SmallP 82 := by
  intro w
  rw [show dec 82 = [56, 50] by rw [dec_step _ (by decide), dec_digit _ (by decide)]; rfl]
  go_enter Tryz.func160, Tryz.ntmps160
  go_wp2_with fail
  go_ret
  exact ⟨by kernel_rfl, rfl⟩
set_option maxRecDepth 100000 in
set_option maxHeartbeats 1000000 in
theorem small_83 : SmallP 83 := by
  intro w
  rw [show dec 83 = [56, 51] by rw [dec_step _ (by decide), dec_digit _ (by decide)]; rfl]
  go_enter Tryz.func160, Tryz.ntmps160
  go_wp2_with fail
  go_ret
  exact ⟨by kernel_rfl, rfl⟩
set_option maxRecDepth 100000 in
set_option maxHeartbeats 1000000 in
theorem small_84 : SmallP 84 := by
  intro w
  rw [show dec 84 = [56, 52] by rw [dec_step _ (by decide), dec_digit _ (by decide)]; rfl]
  go_enter Tryz.func160, Tryz.ntmps160
  go_wp2_with fail
  go_ret
  exact ⟨by kernel_rfl, rfl⟩
set_option maxRecDepth 100000 in
set_option maxHeartbeats 1000000 in
theorem small_85 : SmallP 85 := by
  intro w
  rw [show dec 85 = [56, 53] by rw [dec_step _ (by decide), dec_digit _ (by decide)]; rfl]
  go_enter Tryz.func160, Tryz.ntmps160
  go_wp2_with fail
  go_ret
  exact ⟨by kernel_rfl, rfl⟩
set_option maxRecDepth 100000 in
set_option maxHeartbeats 1000000 in
theorem small_86 : SmallP 86 := by
  intro w
  rw [show dec 86 = [56, 54] by rw [dec_step _ (by decide), dec_digit _ (by decide)]; rfl]
  go_enter Tryz.func160, Tryz.ntmps160
  go_wp2_with fail
  go_ret
  exact ⟨by kernel_rfl, rfl⟩
set_option maxRecDepth 100000 in
set_option maxHeartbeats 1000000 in
theorem small_87 : SmallP 87 := by
  intro w
  rw [show dec 87 = [56, 55] by rw [dec_step _ (by decide), dec_digit _ (by decide)]; rfl]
  go_enter Tryz.func160, Tryz.ntmps160
  go_wp2_with fail
  go_ret
  exact ⟨by kernel_rfl, rfl⟩
set_option maxRecDepth 100000 in
set_option maxHeartbeats 1000000 in
theorem small_88 : SmallP 88 := by
  intro w
  rw [show dec 88 = [56, 56] by rw [dec_step _ (by decide), dec_digit _ (by decide)]; rfl]
  go_enter Tryz.func160, Tryz.ntmps160
  go_wp2_with fail
  go_ret
  exact ⟨by kernel_rfl, rfl⟩
set_option maxRecDepth 100000 in
set_option maxHeartbeats 1000000 in
theorem small_89 : SmallP 89 := by
  intro w
  rw [show dec 89 = [56, 57] by rw [dec_step _ (by decide), dec_digit _ (by decide)]; rfl]
  go_enter Tryz.func160, Tryz.ntmps160
  go_wp2_with fail
  go_ret
  exact ⟨by kernel_rfl, rfl⟩
set_option maxRecDepth 100000 in
set_option maxHeartbeats 1000000 in
theorem small_90 : SmallP 90 := by
  intro w
  rw [show dec 90 = [57, 48] by rw [dec_step _ (by decide), dec_digit _ (by decide)]; rfl]
  go_enter Tryz.func160, Tryz.ntmps160
  go_wp2_with fail
  go_ret
  exact ⟨by kernel_rfl, rfl⟩
set_option maxRecDepth 100000 in
set_option maxHeartbeats 1000000 in
theorem small_91 : SmallP 91 := by
  intro w
  rw [show dec 91 = [57, 49] by rw [dec_step _ (by decide), dec_digit _ (by decide)]; rfl]
  go_enter Tryz.func160, Tryz.ntmps160
  go_wp2_with fail
  go_ret
  exact ⟨by kernel_rfl, rfl⟩
set_option maxRecDepth 100000 in
set_option maxHeartbeats 1000000 in
theorem small_92 : SmallP 92 := by
  intro w
  rw [show dec 92 = [57, 50] by rw [dec_step _ (by decide), dec_digit _ (by decide)]; rfl]
  go_enter Tryz.func160, Tryz.ntmps160
  go_wp2_with fail
  go_ret
  exact ⟨by kernel_rfl, rfl⟩
set_option maxRecDepth 100000 in
set_option maxHeartbeats 1000000 in
theorem small_93 : SmallP 93 := by
  intro w
  rw [show dec 93 = [57, 51] by rw [dec_step _ (by decide), dec_digit _ (by decide)]; rfl]
  go_enter Tryz.func160, Tryz.ntmps160
  go_wp2_with fail
  go_ret
  exact ⟨by kernel_rfl, rfl⟩
set_option maxRecDepth 100000 in
set_option maxHeartbeats 1000000 in
theorem small_94 : SmallP 94 := by
  intro w
  rw [show dec 94 = [57, 52] by rw [dec_step _ (by decide), dec_digit _ (by decide)]; rfl]
  go_enter Tryz.func160, Tryz.ntmps160
  go_wp2_with fail
  go_ret
  exact ⟨by kernel_rfl, rfl⟩
set_option maxRecDepth 100000 in
set_option maxHeartbeats 1000000 in
theorem small_95 : SmallP 95 := by
  intro w
  rw [show dec 95 = [57, 53] by rw [dec_step _ (by decide), dec_digit _ (by decide)]; rfl]
  go_enter Tryz.func160, Tryz.ntmps160
  go_wp2_with fail
  go_ret
  exact ⟨by kernel_rfl, rfl⟩
set_option maxRecDepth 100000 in
set_option maxHeartbeats 1000000 in
theorem small_96 : SmallP 96 := by
  intro w
  rw [show dec 96 = [57, 54] by rw [dec_step _ (by decide), dec_digit _ (by decide)]; rfl]
  go_enter Tryz.func160, Tryz.ntmps160
  go_wp2_with fail
  go_ret
  exact ⟨by kernel_rfl, rfl⟩
set_option maxRecDepth 100000 in
set_option maxHeartbeats 1000000 in
theorem small_97 : SmallP 97 := by
  intro w
  rw [show dec 97 = [57, 55] by rw [dec_step _ (by decide), dec_digit _ (by decide)]; rfl]
  go_enter Tryz.func160, Tryz.ntmps160
  go_wp2_with fail
  go_ret
  exact ⟨by kernel_rfl, rfl⟩
set_option maxRecDepth 100000 in
set_option maxHeartbeats 1000000 in
theorem small_98 : SmallP 98 := by
  intro w
  rw [show dec 98 = [57, 56] by rw [dec_step _ (by decide), dec_digit _ (by decide)]; rfl]
  go_enter Tryz.func160, Tryz.ntmps160
  go_wp2_with fail
  go_ret
  exact ⟨by kernel_rfl, rfl⟩
set_option maxRecDepth 100000 in
set_option maxHeartbeats 1000000 in
theorem small_99 : SmallP 99 := by
  intro w
  rw [show dec 99 = [57, 57] by rw [dec_step _ (by decide), dec_digit _ (by decide)]; rfl]
  go_enter Tryz.func160, Tryz.ntmps160
  go_wp2_with fail
  go_ret
  exact ⟨by kernel_rfl, rfl⟩
theorem small_100 (n : Nat) (h : n < 100) : SmallP n := by
  by_cases hn : n < 48
  · exact small_any n hn
  have : n = 48 ∨ n = 49 ∨ n = 50 ∨ n = 51 ∨ n = 52 ∨ n = 53 ∨ n = 54 ∨ n = 55 ∨ n = 56 ∨ n = 57 ∨ n = 58 ∨ n = 59 ∨ n = 60 ∨ n = 61 ∨ n = 62 ∨ n = 63 ∨ n = 64 ∨ n = 65 ∨ n = 66 ∨ n = 67 ∨ n = 68 ∨ n = 69 ∨ n = 70 ∨ n = 71 ∨ n = 72 ∨ n = 73 ∨ n = 74 ∨ n = 75 ∨ n = 76 ∨ n = 77 ∨ n = 78 ∨ n = 79 ∨ n = 80 ∨ n = 81 ∨ n = 82 ∨ n = 83 ∨ n = 84 ∨ n = 85 ∨ n = 86 ∨ n = 87 ∨ n = 88 ∨ n = 89 ∨ n = 90 ∨ n = 91 ∨ n = 92 ∨ n = 93 ∨ n = 94 ∨ n = 95 ∨ n = 96 ∨ n = 97 ∨ n = 98 ∨ n = 99 := by omega
  rcases this with rfl | rfl | rfl | rfl | rfl | rfl | rfl | rfl | rfl | rfl | rfl | rfl | rfl | rfl | rfl | rfl | rfl | rfl | rfl | rfl | rfl | rfl | rfl | rfl | rfl | rfl | rfl | rfl | rfl | rfl | rfl | rfl | rfl | rfl | rfl | rfl | rfl | rfl | rfl | rfl | rfl | rfl | rfl | rfl | rfl | rfl | rfl | rfl | rfl | rfl | rfl | rfl
  · exact small_48
  · exact small_49
  · exact small_50
  · exact small_51
  · exact small_52
  · exact small_53
  · exact small_54
  · exact small_55
  · exact small_56
  · exact small_57
  · exact small_58
  · exact small_59
  · exact small_60
  · exact small_61
  · exact small_62
  · exact small_63
  · exact small_64
  · exact small_65
  · exact small_66
  · exact small_67
  · exact small_68
  · exact small_69
  · exact small_70
  · exact small_71
  · exact small_72
  · exact small_73
  · exact small_74
  · exact small_75
  · exact small_76
  · exact small_77
  · exact small_78
  · exact small_79
  · exact small_80
  · exact small_81
  · exact small_82
  · exact small_83
  · exact small_84
  · exact small_85
  · exact small_86
  · exact small_87
  · exact small_88
  · exact small_89
  · exact small_90
  · exact small_91
  · exact small_92
  · exact small_93
  · exact small_94
  · exact small_95
  · exact small_96
  · exact small_97
  · exact small_98
  · exact small_99
set_option maxRecDepth 100000 in
set_option maxHeartbeats 1000000 in
/-- strconv.Itoa, of any number that a program may bear. -/
theorem itoaC : ItoaC := by
  intro w n hn hp
  by_cases h : n < 100
  · have HC := small_100 n h w
    have h0 : (0 : Int) ≤ (n : Int) := by omega
    have h1 : (n : Int) < 100 := by omega
    go_enter Tryz.func62, Tryz.ntmps62
    go_wp2_with (first | (go_at_call 160; refine HC.mono ?_; rintro e w' ⟨rfl, rfl⟩) | (go_at_call 89; go_in) | (go_at_call 141; go_in))
    go_ret
    exact ⟨rfl, Below.refl _ _⟩
  · have HC := hide (fi_any n (by omega) hn hp)
    clear hp
    go_enter Tryz.func62, Tryz.ntmps62
    go_wp2_with (first | (go_at_call 141; refine (unhide HC).mono ?_; rintro e w' ⟨rfl, hb⟩) | (go_at_call 89; go_in))
    go_ret
    exact ⟨rfl, hb⟩
end Go.Proofs.YteneoapickhpdaaGreatDoor
