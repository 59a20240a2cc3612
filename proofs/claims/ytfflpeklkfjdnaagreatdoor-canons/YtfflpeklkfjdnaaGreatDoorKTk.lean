import Derived.Test.YtfflpeklkfjdnaaGreatDoorKTf
set_option linter.unusedSimpArgs false
set_option linter.unusedVariables false
set_option linter.unusedSectionVars false
namespace Go.Proofs.YtfflpeklkfjdnaaGreatDoor
open Go Go.RowKit Un
section
variable {w : World} {kb nb : Nat} {hv iv lv nv : Value} {ns : List ByteArray} {K : Nat → Option Ty} {P Q : Nat → Prop}

set_option maxRecDepth 100000 in
set_option maxHeartbeats 4000000 in
theorem meant_fn (h : KN w kb nb hv iv lv nv ns K P) (s : ByteArray) (n f t a g cap : Nat) (u v : Nd) (xu xv : NV) (hu : MeantC u) (hv' : MeantC v) (hg : Q g) (zg : g < w.heap.size) (ru : at7 w g 0 xu) (rv : at7 w g 1 xv) (nu : NR w Q u xu) (nv' : NR w Q v xv) (hQ : ∀ b, Q b → ¬ b ∈ Mu kb nb hv iv lv nv) (hN : (mean ns (.mk 17 s n [u, v] f t a)).2.length ≤ 1000) :
    Calls Tryz.prog 68 #[.pointer (some ⟨nb, 0, none⟩), .pointer (some ⟨kb, 0, none⟩), NV.v ⟨17, s, n, some ⟨g, 0, none⟩, 2, cap, f, t, a⟩] w (MeantPost kb nb hv iv lv nv ns K P (.mk 17 s n [u, v] f t a) w) := by
  have hm : Hid (mean ns (.mk 17 s n [u, v] f t a) = (.con nFn [(mean ns u).1, (mean (mean ns u).2 v).1], (mean (mean ns u).2 v).2)) := by show _ = _; simp [mean, meanL, conN]
  have HN : Hid ((mean (mean ns u).2 v).2.length ≤ 1000) := by have := hN; rw [unhide hm] at this; exact this
  have HN1 : Hid ((mean ns u).2.length ≤ 1000) := Nat.le_trans (mean_len v _) (unhide HN)
  have H := hide h.low
  have HU := hide hu
  have HV := hide hv'
  have bb := ((Below.refl w.heap.size w).alloc (Nat.le_refl _) (.cells (nodeA ⟨17, s, n, some ⟨g, 0, none⟩, 2, cap, f, t, a⟩) 62)).alloc (by simp) (.cells zTy 85)
  have HB := hide bb
  have NU := hide (nu.low.bel bb)
  have NV' := hide nv'.low
  have HQ : Hid (∀ b, (Q b ∧ b < w.heap.size) → ¬ b ∈ Mu kb nb hv iv lv nv) := fun b q => hQ b q.1
  have Hg := hide hg
  have BR := hide (Bx.at (w.alloc (.cells (nodeA ⟨17, s, n, some ⟨g, 0, none⟩, 2, cap, f, t, a⟩) 62)) zTy 85 (w.heap.size + 1) (by simp))
  have BN := hide ((Bx.new w (nodeA ⟨17, s, n, some ⟨g, 0, none⟩, 2, cap, f, t, a⟩) 62).alloc (.cells zTy 85))
  have a0 : ∀ j, j < 7 → ((w.alloc (.cells (nodeA ⟨17, s, n, some ⟨g, 0, none⟩, 2, cap, f, t, a⟩) 62)).alloc (.cells zTy 85)).cell? ⟨g, j, none⟩ = (xu.l)[j]? := fun j hj => (oldCell bb g j zg).trans (by simpa using ru j hj)
  have q0 := a0 0 (by omega)
  have q1 := a0 1 (by omega)
  have q2 := a0 2 (by omega)
  have q3 := a0 3 (by omega)
  have q4 := a0 4 (by omega)
  have q5 := a0 5 (by omega)
  have q6 := a0 6 (by omega)
  simp only [NV.l, List.getElem?_cons_zero, List.getElem?_cons_succ] at q0 q1 q2 q3 q4 q5 q6
  have RV := hide rv
  have ml : Hid (∀ b, b ∈ Mu kb nb hv iv lv nv → b < w.heap.size) := fun b hb => h.lt hb
  clear h hu hv' nu nv' hQ hN bb a0 ru rv hg
  unfold NV.v
  go_enter Tryz.func68, Tryz.ntmps68
  obtain ⟨c0, f0, y0⟩ := unhide BN
  obtain ⟨c1, f1, y1⟩ := unhide BR
  go_wp2_with fail
  refine (unhide HU _ kb nb hv iv lv nv ns K _ _ xu ((unhide H).bel (unhide HB)) (unhide NU) (unhide HQ) (unhide HN1)).mono ?_
  rintro e w1 ⟨yu, hv1, iv1, lv1, nv1, Q1, rfl, hK1, hT1, hF1, hM1, hP1, hQ1⟩
  have hs1 : w.heap.size + 2 ≤ w1.heap.size := by have := hF1.size; simp at this; omega
  have nM : ∀ b, w.heap.size ≤ b → ¬ b ∈ Mu kb nb hv iv lv nv := fun b hb k => by have := unhide ml b k; omega
  have nM1 : Hid (∀ b, (w.heap.size ≤ b ∧ b < w.heap.size + 2) ∨ w1.heap.size ≤ b → ¬ b ∈ Mu kb nb hv1 iv1 lv1 nv1) := by
    rintro b (hb | hb) k
    · rcases hM1 b k with k | k
      · exact nM b hb.1 k
      · simp at k; omega
    · have := hK1.lt k; omega
  have BN1 := hide (((unhide BN).fr hF1 (nM _ (by omega))).alloc (.cells yu.a 85))
  have BR1 := hide (((unhide BR).fr hF1 (nM _ (by omega))).alloc (.cells yu.a 85))
  have BU1 := hide (Bx.new w1 yu.a 85)
  have K1 := hide (hK1.low.bel ((Below.refl w1.heap.size w1).alloc (Nat.le_refl _) (.cells yu.a 85)))
  have T1 := hide hT1.low
  have F1 : Hid (Fr (· ∈ Mu kb nb hv iv lv nv) w (w1.alloc (.cells yu.a 85))) := ((Fr.of (unhide HB)).trans' hF1 (fun b hb => Or.inl hb)).low ((Below.refl w1.heap.size w1).alloc (Nat.le_refl _) _ |>.mono (by omega))
  have o1 : ∀ b, (Q b ∧ b < w.heap.size) → (w1.alloc (.cells yu.a 85)).heap[b]? = w.heap[b]? := fun b q => (unhide F1).block b q.2 (unhide HQ b q)
  have a1 : ∀ j, j < 7 → (w1.alloc (.cells yu.a 85)).cell? ⟨g, 7 + j, none⟩ = (xv.l)[j]? := fun j hj => (World.cell?_of_block (a := ⟨g, 7 + j, none⟩) (o1 g ⟨unhide Hg, zg⟩)).trans (by have := unhide RV j hj; simpa using this)
  have r0 := a1 0 (by omega)
  have r1 := a1 1 (by omega)
  have r2 := a1 2 (by omega)
  have r3 := a1 3 (by omega)
  have r4 := a1 4 (by omega)
  have r5 := a1 5 (by omega)
  have r6 := a1 6 (by omega)
  simp only [NV.l, List.getElem?_cons_zero, List.getElem?_cons_succ, Nat.add_zero, Nat.reduceAdd] at r0 r1 r2 r3 r4 r5 r6
  have NV1 := hide ((unhide NV').move (w' := (w1.alloc (.cells yu.a 85))) (Q := fun b => Q b ∧ b < w.heap.size) (by simp; omega) (fun b q _ => o1 b q) (fun _ q _ => q))
  have HQ1 : Hid (∀ b, (Q b ∧ b < w.heap.size) → ¬ b ∈ Mu kb nb hv1 iv1 lv1 nv1) := fun b q k => by
    rcases hM1 b k with k | k
    · exact unhide HQ b q k
    · simp at k; omega
  have HM1 : Hid (∀ b, b ∈ Mu kb nb hv1 iv1 lv1 nv1 → b ∈ Mu kb nb hv iv lv nv ∨ w.heap.size + 2 ≤ b) := fun b k => (hM1 b k).imp id (fun k => by simp at k; omega)
  have HQ1b : Hid (∀ b, Q1 b → (P b ∧ b < w.heap.size) ∨ w.heap.size + 2 ≤ b) := fun b k => (hQ1 b k).imp (fun k => k.1) (fun k => by simp at k; omega)
  have HP1 : Hid (∀ b, (P b ∧ b < w.heap.size) → Q1 b) := fun b p => hP1 b p (by simp; omega)
  clear hK1 hT1 hF1 hM1 hP1 hQ1 o1 a1 BN BR HB NU NV' c0 f0 y0 c1 f1 y1 q0 q1 q2 q3 q4 q5 q6 nM RV
  obtain ⟨c0, f0, y0⟩ := unhide BN1
  obtain ⟨c1, f1, y1⟩ := unhide BR1
  unfold TV.v
  unfold TV.a at c0 f0 c1 f1 r0 r1 r2 r3 r4 r5 r6
  go_wp2_with fail
  refine (unhide HV _ kb nb hv1 iv1 lv1 nv1 (mean ns u).2 K _ _ xv (unhide K1) (unhide NV1) (unhide HQ1) (unhide HN)).mono ?_
  rintro e w2 ⟨yv, hv2, iv2, lv2, nv2, Q2, rfl, hK2, hT2, hF2, hM2, hP2, hQ2⟩
  have hs2 : w1.heap.size + 1 ≤ w2.heap.size := by have := hF2.size; simp at this; omega
  have BR2 := hide (((unhide BR1).fr hF2 (unhide nM1 _ (Or.inl ⟨by omega, by omega⟩))).alloc (.cells yv.a 85))
  have BU2 := hide (((unhide BU1).fr hF2 (unhide nM1 _ (Or.inr (Nat.le_refl _)))).alloc (.cells yv.a 85))
  have BV2 := hide (Bx.new w2 yv.a 85)
  have b2 := (Below.refl w2.heap.size w2).alloc (Nat.le_refl _) (.cells yv.a 85)
  have K2 := hide (hK2.low.bel b2)
  have T2 := hide (hT2.low.bel b2)
  have T1' := hide ((unhide T1).move (w' := w2.alloc (.cells yv.a 85)) (Q := fun b => Q2 b ∧ b < w2.heap.size) (mean_len v (mean ns u).2) (by simp; omega) (fun b q z => (b2.block b (by omega)).trans ((hF2.block b (by simp; omega) ((unhide K1).pm b q)).trans (((Below.refl w1.heap.size w1).alloc (Nat.le_refl _) (.cells yu.a 85)).block b z))) (fun b q z => ⟨hP2 b q (by simp; omega), by omega⟩))
  have F2 : Hid (Fr (· ∈ Mu kb nb hv iv lv nv) w (w2.alloc (.cells yv.a 85))) := ((unhide F1).trans' hF2 (fun b hb => (unhide HM1 b hb).imp id (fun k => by omega))).low (b2.mono (by omega))
  have HM2 : Hid (∀ b, b ∈ Mu kb nb hv2 iv2 lv2 nv2 → b ∈ Mu kb nb hv1 iv1 lv1 nv1 ∨ w1.heap.size + 1 ≤ b) := fun b k => (hM2 b k).imp id (fun k => by simp at k; omega)
  have HQ2 : Hid (∀ b, Q2 b → (Q1 b ∧ b < w1.heap.size) ∨ w1.heap.size + 1 ≤ b) := fun b k => (hQ2 b k).imp (fun k => k.1) (fun k => by simp at k; omega)
  have HP2 : Hid (∀ b, (Q1 b ∧ b < w1.heap.size) → Q2 b) := fun b p => hP2 b p (by simp; omega)
  have KL2 : Hid (∀ b, b ∈ Mu kb nb hv2 iv2 lv2 nv2 → b < w2.heap.size) := fun b k => hK2.lt k
  clear hK2 hT2 hF2 hM2 hP2 hQ2 b2 BN1 BR1 BU1 T1 F1 K1 NV1 c0 f0 y0 c1 f1 y1 r0 r1 r2 r3 r4 r5 r6
  obtain ⟨c0, f0, y0⟩ := unhide BU2
  obtain ⟨c1, f1, y1⟩ := unhide BR2
  unfold TV.a at c0 f0 c1 f1
  unfold TV.v
  go_wp2_with fail
  refine (functionOf_C yu yv).mono ?_
  rintro e w3 ⟨g3, rfl, hb3, hg3, B3⟩
  have BR3 := hide ((unhide BR2).below hb3)
  have B3 := hide B3
  have hg3 : w2.heap.size + 1 ≤ g3 := by simp at hg3; omega
  have K3 := hide ((unhide K2).bel hb3)
  have U3 := hide ((unhide T1').bel hb3)
  have V3 := hide ((unhide T2).bel hb3)
  have F3 := hide ((unhide F2).low (hb3.mono (unhide F2).size))
  clear BR2 BU2 BV2 K2 T1' T2 F2 c0 f0 y0 c1 f1 y1 hb3
  obtain ⟨c1, f1, y1⟩ := unhide BR3
  unfold TV.v
  go_wp2_with fail
  have BF := hide ((unhide BR3).set3 rfl (.int .i64 0) (.string nFn) (.slice (some ⟨g3, 0, none⟩) 2 2))
  obtain ⟨cF, fF, zF⟩ := unhide BF
  have hQ3 : ∀ b, ((Q2 b ∧ b < w2.heap.size) ∨ b = g3) → ¬ b ∈ Mu kb nb hv2 iv2 lv2 nv2 := fun b q k => by
    rcases q with q | rfl
    · exact (unhide K3).pm b q k
    · have := unhide HM2 b k
      rcases this with k | k
      · exact unhide nM1 b (Or.inr (by omega)) k
      · have hlt : b < w2.heap.size := unhide KL2 b ‹_›
        omega
  have nR : ¬ w.heap.size + 1 ∈ Mu kb nb hv2 iv2 lv2 nv2 := fun k => by
    rcases unhide HM2 _ k with k | k
    · exact unhide nM1 _ (Or.inl ⟨by omega, by omega⟩) k
    · omega
  have nQ : ¬ ((Q2 (w.heap.size + 1) ∧ w.heap.size + 1 < w2.heap.size) ∨ w.heap.size + 1 = g3) := by
    rintro (q | q)
    · rcases unhide HQ2 _ q.1 with k | k
      · rcases unhide HQ1b _ k.1 with k | k <;> omega
      · omega
    · omega
  refine bodyPost_ret (v := TV.v ⟨0, nFn, some ⟨g3, 0, none⟩, 2, 2⟩) (by simp [results, Tryz.results68, go_sem, cF, TV.v]) rfl ⟨_, hv2, iv2, lv2, nv2, (fun b => (Q2 b ∧ b < w2.heap.size) ∨ b = g3), rfl, ?_, ?_, ?_, ?_, ?_, ?_⟩
  · rw [unhide hm]
    exact ((unhide K3).wide (fun b q => Or.inl q) hQ3).set3 nR nQ _ _ _
  · rw [unhide hm]
    exact TR.pair (P := fun b => (Q2 b ∧ b < w2.heap.size) ∨ b = g3) nFn ((unhide B3).setO3 (by omega) _ _ _) rfl (((unhide U3).wide (Q := fun b => (Q2 b ∧ b < w2.heap.size) ∨ b = g3) (fun b q => Or.inl q)).set3 nQ _ _ _) (((unhide V3).wide (Q := fun b => (Q2 b ∧ b < w2.heap.size) ∨ b = g3) (fun b q => Or.inl q)).set3 nQ _ _ _) (Or.inr rfl) 2 ⟨by decide, fun _ => rfl⟩
  · exact (unhide F3).set3 (Or.inr (by omega)) _ _ _
  · intro b k
    rcases unhide HM2 b k with k | k
    · rcases unhide HM1 b k with k | k
      · exact Or.inl k
      · exact Or.inr (by omega)
    · exact Or.inr (by omega)
  · intro b p z
    exact Or.inl ⟨unhide HP2 b ⟨unhide HP1 b ⟨p, z⟩, by omega⟩, by omega⟩
  · rintro b (q | q)
    · rcases unhide HQ2 b q.1 with k | k
      · rcases unhide HQ1b b k.1 with k | k
        · exact Or.inl k
        · exact Or.inr (by omega)
      · exact Or.inr (by omega)
    · exact Or.inr (by omega)

set_option maxRecDepth 100000 in
set_option maxHeartbeats 4000000 in
theorem meant_pr (h : KN w kb nb hv iv lv nv ns K P) (s : ByteArray) (n f t a g cap : Nat) (u v : Nd) (xu xv : NV) (hu : MeantC u) (hv' : MeantC v) (hg : Q g) (zg : g < w.heap.size) (ru : at7 w g 0 xu) (rv : at7 w g 1 xv) (nu : NR w Q u xu) (nv' : NR w Q v xv) (hQ : ∀ b, Q b → ¬ b ∈ Mu kb nb hv iv lv nv) (hN : (mean ns (.mk 6 s n [u, v] f t a)).2.length ≤ 1000) :
    Calls Tryz.prog 68 #[.pointer (some ⟨nb, 0, none⟩), .pointer (some ⟨kb, 0, none⟩), NV.v ⟨6, s, n, some ⟨g, 0, none⟩, 2, cap, f, t, a⟩] w (MeantPost kb nb hv iv lv nv ns K P (.mk 6 s n [u, v] f t a) w) := by
  have hm : Hid (mean ns (.mk 6 s n [u, v] f t a) = (.con nPr [(mean ns u).1, (mean (mean ns u).2 v).1], (mean (mean ns u).2 v).2)) := by show _ = _; simp [mean, meanL, conN]
  have HN : Hid ((mean (mean ns u).2 v).2.length ≤ 1000) := by have := hN; rw [unhide hm] at this; exact this
  have HN1 : Hid ((mean ns u).2.length ≤ 1000) := Nat.le_trans (mean_len v _) (unhide HN)
  have H := hide h.low
  have HU := hide hu
  have HV := hide hv'
  have bb := ((Below.refl w.heap.size w).alloc (Nat.le_refl _) (.cells (nodeA ⟨6, s, n, some ⟨g, 0, none⟩, 2, cap, f, t, a⟩) 62)).alloc (by simp) (.cells zTy 85)
  have HB := hide bb
  have NU := hide (nu.low.bel bb)
  have NV' := hide nv'.low
  have HQ : Hid (∀ b, (Q b ∧ b < w.heap.size) → ¬ b ∈ Mu kb nb hv iv lv nv) := fun b q => hQ b q.1
  have Hg := hide hg
  have BR := hide (Bx.at (w.alloc (.cells (nodeA ⟨6, s, n, some ⟨g, 0, none⟩, 2, cap, f, t, a⟩) 62)) zTy 85 (w.heap.size + 1) (by simp))
  have BN := hide ((Bx.new w (nodeA ⟨6, s, n, some ⟨g, 0, none⟩, 2, cap, f, t, a⟩) 62).alloc (.cells zTy 85))
  have a0 : ∀ j, j < 7 → ((w.alloc (.cells (nodeA ⟨6, s, n, some ⟨g, 0, none⟩, 2, cap, f, t, a⟩) 62)).alloc (.cells zTy 85)).cell? ⟨g, j, none⟩ = (xu.l)[j]? := fun j hj => (oldCell bb g j zg).trans (by simpa using ru j hj)
  have q0 := a0 0 (by omega)
  have q1 := a0 1 (by omega)
  have q2 := a0 2 (by omega)
  have q3 := a0 3 (by omega)
  have q4 := a0 4 (by omega)
  have q5 := a0 5 (by omega)
  have q6 := a0 6 (by omega)
  simp only [NV.l, List.getElem?_cons_zero, List.getElem?_cons_succ] at q0 q1 q2 q3 q4 q5 q6
  have RV := hide rv
  have ml : Hid (∀ b, b ∈ Mu kb nb hv iv lv nv → b < w.heap.size) := fun b hb => h.lt hb
  clear h hu hv' nu nv' hQ hN bb a0 ru rv hg
  unfold NV.v
  go_enter Tryz.func68, Tryz.ntmps68
  obtain ⟨c0, f0, y0⟩ := unhide BN
  obtain ⟨c1, f1, y1⟩ := unhide BR
  go_wp2_with fail
  refine (unhide HU _ kb nb hv iv lv nv ns K _ _ xu ((unhide H).bel (unhide HB)) (unhide NU) (unhide HQ) (unhide HN1)).mono ?_
  rintro e w1 ⟨yu, hv1, iv1, lv1, nv1, Q1, rfl, hK1, hT1, hF1, hM1, hP1, hQ1⟩
  have hs1 : w.heap.size + 2 ≤ w1.heap.size := by have := hF1.size; simp at this; omega
  have nM : ∀ b, w.heap.size ≤ b → ¬ b ∈ Mu kb nb hv iv lv nv := fun b hb k => by have := unhide ml b k; omega
  have nM1 : Hid (∀ b, (w.heap.size ≤ b ∧ b < w.heap.size + 2) ∨ w1.heap.size ≤ b → ¬ b ∈ Mu kb nb hv1 iv1 lv1 nv1) := by
    rintro b (hb | hb) k
    · rcases hM1 b k with k | k
      · exact nM b hb.1 k
      · simp at k; omega
    · have := hK1.lt k; omega
  have BN1 := hide (((unhide BN).fr hF1 (nM _ (by omega))).alloc (.cells yu.a 85))
  have BR1 := hide (((unhide BR).fr hF1 (nM _ (by omega))).alloc (.cells yu.a 85))
  have BU1 := hide (Bx.new w1 yu.a 85)
  have K1 := hide (hK1.low.bel ((Below.refl w1.heap.size w1).alloc (Nat.le_refl _) (.cells yu.a 85)))
  have T1 := hide hT1.low
  have F1 : Hid (Fr (· ∈ Mu kb nb hv iv lv nv) w (w1.alloc (.cells yu.a 85))) := ((Fr.of (unhide HB)).trans' hF1 (fun b hb => Or.inl hb)).low ((Below.refl w1.heap.size w1).alloc (Nat.le_refl _) _ |>.mono (by omega))
  have o1 : ∀ b, (Q b ∧ b < w.heap.size) → (w1.alloc (.cells yu.a 85)).heap[b]? = w.heap[b]? := fun b q => (unhide F1).block b q.2 (unhide HQ b q)
  have a1 : ∀ j, j < 7 → (w1.alloc (.cells yu.a 85)).cell? ⟨g, 7 + j, none⟩ = (xv.l)[j]? := fun j hj => (World.cell?_of_block (a := ⟨g, 7 + j, none⟩) (o1 g ⟨unhide Hg, zg⟩)).trans (by have := unhide RV j hj; simpa using this)
  have r0 := a1 0 (by omega)
  have r1 := a1 1 (by omega)
  have r2 := a1 2 (by omega)
  have r3 := a1 3 (by omega)
  have r4 := a1 4 (by omega)
  have r5 := a1 5 (by omega)
  have r6 := a1 6 (by omega)
  simp only [NV.l, List.getElem?_cons_zero, List.getElem?_cons_succ, Nat.add_zero, Nat.reduceAdd] at r0 r1 r2 r3 r4 r5 r6
  have NV1 := hide ((unhide NV').move (w' := (w1.alloc (.cells yu.a 85))) (Q := fun b => Q b ∧ b < w.heap.size) (by simp; omega) (fun b q _ => o1 b q) (fun _ q _ => q))
  have HQ1 : Hid (∀ b, (Q b ∧ b < w.heap.size) → ¬ b ∈ Mu kb nb hv1 iv1 lv1 nv1) := fun b q k => by
    rcases hM1 b k with k | k
    · exact unhide HQ b q k
    · simp at k; omega
  have HM1 : Hid (∀ b, b ∈ Mu kb nb hv1 iv1 lv1 nv1 → b ∈ Mu kb nb hv iv lv nv ∨ w.heap.size + 2 ≤ b) := fun b k => (hM1 b k).imp id (fun k => by simp at k; omega)
  have HQ1b : Hid (∀ b, Q1 b → (P b ∧ b < w.heap.size) ∨ w.heap.size + 2 ≤ b) := fun b k => (hQ1 b k).imp (fun k => k.1) (fun k => by simp at k; omega)
  have HP1 : Hid (∀ b, (P b ∧ b < w.heap.size) → Q1 b) := fun b p => hP1 b p (by simp; omega)
  clear hK1 hT1 hF1 hM1 hP1 hQ1 o1 a1 BN BR HB NU NV' c0 f0 y0 c1 f1 y1 q0 q1 q2 q3 q4 q5 q6 nM RV
  obtain ⟨c0, f0, y0⟩ := unhide BN1
  obtain ⟨c1, f1, y1⟩ := unhide BR1
  unfold TV.v
  unfold TV.a at c0 f0 c1 f1 r0 r1 r2 r3 r4 r5 r6
  go_wp2_with fail
  refine (unhide HV _ kb nb hv1 iv1 lv1 nv1 (mean ns u).2 K _ _ xv (unhide K1) (unhide NV1) (unhide HQ1) (unhide HN)).mono ?_
  rintro e w2 ⟨yv, hv2, iv2, lv2, nv2, Q2, rfl, hK2, hT2, hF2, hM2, hP2, hQ2⟩
  have hs2 : w1.heap.size + 1 ≤ w2.heap.size := by have := hF2.size; simp at this; omega
  have BR2 := hide (((unhide BR1).fr hF2 (unhide nM1 _ (Or.inl ⟨by omega, by omega⟩))).alloc (.cells yv.a 85))
  have BU2 := hide (((unhide BU1).fr hF2 (unhide nM1 _ (Or.inr (Nat.le_refl _)))).alloc (.cells yv.a 85))
  have BV2 := hide (Bx.new w2 yv.a 85)
  have b2 := (Below.refl w2.heap.size w2).alloc (Nat.le_refl _) (.cells yv.a 85)
  have K2 := hide (hK2.low.bel b2)
  have T2 := hide (hT2.low.bel b2)
  have T1' := hide ((unhide T1).move (w' := w2.alloc (.cells yv.a 85)) (Q := fun b => Q2 b ∧ b < w2.heap.size) (mean_len v (mean ns u).2) (by simp; omega) (fun b q z => (b2.block b (by omega)).trans ((hF2.block b (by simp; omega) ((unhide K1).pm b q)).trans (((Below.refl w1.heap.size w1).alloc (Nat.le_refl _) (.cells yu.a 85)).block b z))) (fun b q z => ⟨hP2 b q (by simp; omega), by omega⟩))
  have F2 : Hid (Fr (· ∈ Mu kb nb hv iv lv nv) w (w2.alloc (.cells yv.a 85))) := ((unhide F1).trans' hF2 (fun b hb => (unhide HM1 b hb).imp id (fun k => by omega))).low (b2.mono (by omega))
  have HM2 : Hid (∀ b, b ∈ Mu kb nb hv2 iv2 lv2 nv2 → b ∈ Mu kb nb hv1 iv1 lv1 nv1 ∨ w1.heap.size + 1 ≤ b) := fun b k => (hM2 b k).imp id (fun k => by simp at k; omega)
  have HQ2 : Hid (∀ b, Q2 b → (Q1 b ∧ b < w1.heap.size) ∨ w1.heap.size + 1 ≤ b) := fun b k => (hQ2 b k).imp (fun k => k.1) (fun k => by simp at k; omega)
  have HP2 : Hid (∀ b, (Q1 b ∧ b < w1.heap.size) → Q2 b) := fun b p => hP2 b p (by simp; omega)
  have KL2 : Hid (∀ b, b ∈ Mu kb nb hv2 iv2 lv2 nv2 → b < w2.heap.size) := fun b k => hK2.lt k
  clear hK2 hT2 hF2 hM2 hP2 hQ2 b2 BN1 BR1 BU1 T1 F1 K1 NV1 c0 f0 y0 c1 f1 y1 r0 r1 r2 r3 r4 r5 r6
  obtain ⟨c0, f0, y0⟩ := unhide BU2
  obtain ⟨c1, f1, y1⟩ := unhide BR2
  unfold TV.a at c0 f0 c1 f1
  unfold TV.v
  go_wp2_with fail
  refine (pairOf_C yu yv).mono ?_
  rintro e w3 ⟨g3, rfl, hb3, hg3, B3⟩
  have BR3 := hide ((unhide BR2).below hb3)
  have B3 := hide B3
  have hg3 : w2.heap.size + 1 ≤ g3 := by simp at hg3; omega
  have K3 := hide ((unhide K2).bel hb3)
  have U3 := hide ((unhide T1').bel hb3)
  have V3 := hide ((unhide T2).bel hb3)
  have F3 := hide ((unhide F2).low (hb3.mono (unhide F2).size))
  clear BR2 BU2 BV2 K2 T1' T2 F2 c0 f0 y0 c1 f1 y1 hb3
  obtain ⟨c1, f1, y1⟩ := unhide BR3
  unfold TV.v
  go_wp2_with fail
  have BF := hide ((unhide BR3).set3 rfl (.int .i64 0) (.string nPr) (.slice (some ⟨g3, 0, none⟩) 2 2))
  obtain ⟨cF, fF, zF⟩ := unhide BF
  have hQ3 : ∀ b, ((Q2 b ∧ b < w2.heap.size) ∨ b = g3) → ¬ b ∈ Mu kb nb hv2 iv2 lv2 nv2 := fun b q k => by
    rcases q with q | rfl
    · exact (unhide K3).pm b q k
    · have := unhide HM2 b k
      rcases this with k | k
      · exact unhide nM1 b (Or.inr (by omega)) k
      · have hlt : b < w2.heap.size := unhide KL2 b ‹_›
        omega
  have nR : ¬ w.heap.size + 1 ∈ Mu kb nb hv2 iv2 lv2 nv2 := fun k => by
    rcases unhide HM2 _ k with k | k
    · exact unhide nM1 _ (Or.inl ⟨by omega, by omega⟩) k
    · omega
  have nQ : ¬ ((Q2 (w.heap.size + 1) ∧ w.heap.size + 1 < w2.heap.size) ∨ w.heap.size + 1 = g3) := by
    rintro (q | q)
    · rcases unhide HQ2 _ q.1 with k | k
      · rcases unhide HQ1b _ k.1 with k | k <;> omega
      · omega
    · omega
  refine bodyPost_ret (v := TV.v ⟨0, nPr, some ⟨g3, 0, none⟩, 2, 2⟩) (by simp [results, Tryz.results68, go_sem, cF, TV.v]) rfl ⟨_, hv2, iv2, lv2, nv2, (fun b => (Q2 b ∧ b < w2.heap.size) ∨ b = g3), rfl, ?_, ?_, ?_, ?_, ?_, ?_⟩
  · rw [unhide hm]
    exact ((unhide K3).wide (fun b q => Or.inl q) hQ3).set3 nR nQ _ _ _
  · rw [unhide hm]
    exact TR.pair (P := fun b => (Q2 b ∧ b < w2.heap.size) ∨ b = g3) nPr ((unhide B3).setO3 (by omega) _ _ _) rfl (((unhide U3).wide (Q := fun b => (Q2 b ∧ b < w2.heap.size) ∨ b = g3) (fun b q => Or.inl q)).set3 nQ _ _ _) (((unhide V3).wide (Q := fun b => (Q2 b ∧ b < w2.heap.size) ∨ b = g3) (fun b q => Or.inl q)).set3 nQ _ _ _) (Or.inr rfl) 2 ⟨by decide, fun _ => rfl⟩
  · exact (unhide F3).set3 (Or.inr (by omega)) _ _ _
  · intro b k
    rcases unhide HM2 b k with k | k
    · rcases unhide HM1 b k with k | k
      · exact Or.inl k
      · exact Or.inr (by omega)
    · exact Or.inr (by omega)
  · intro b p z
    exact Or.inl ⟨unhide HP2 b ⟨unhide HP1 b ⟨p, z⟩, by omega⟩, by omega⟩
  · rintro b (q | q)
    · rcases unhide HQ2 b q.1 with k | k
      · rcases unhide HQ1b b k.1 with k | k
        · exact Or.inl k
        · exact Or.inr (by omega)
      · exact Or.inr (by omega)
    · exact Or.inr (by omega)
end
end Go.Proofs.YtfflpeklkfjdnaaGreatDoor
