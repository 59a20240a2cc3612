import Derived.Deep.Cut
import Derived.Deep.CutRange
import Derived.Maps.AppendAt
import Derived.Test.YtfflpeklkfjdnaaGreatDoorKTf
import Derived.Test.YtfflpeklkfjdnaaGreatDoorKTk
set_option linter.unusedSimpArgs false
set_option linter.unusedVariables false
set_option linter.unusedSectionVars false
namespace Go.Proofs.YtfflpeklkfjdnaaGreatDoor
open Go Go.RowKit Un
section
variable {w : World} {kb nb : Nat} {hv iv lv nv : Value} {ns : List ByteArray} {K : Nat → Option Ty} {P : Nat → Prop}

set_option maxRecDepth 100000 in
set_option maxHeartbeats 4000000 in
theorem meant_new (h : KN w kb nb hv iv lv nv ns K P) (hN : ns.length < 1000) (s : ByteArray) (n f t a : Nat) (hs : ¬ s ∈ ns) :
    Calls Tryz.prog 68 #[.pointer (some ⟨nb, 0, none⟩), .pointer (some ⟨kb, 0, none⟩), NV.v ⟨16, s, n, none, 0, 0, f, t, a⟩] w (MeantPost kb nb hv iv lv nv ns K P (.mk 16 s n [] f t a) w) := by
  obtain ⟨i0, hi0, hz0, hz1, hz2⟩ := info_parts strInfo
  obtain ⟨i1, hi1, hy0, hy1, hy2⟩ := info_parts refTypeInfo
  obtain ⟨la, ca, rfl⟩ := own_slice h.nms.ol
  obtain ⟨lb, cb, rfl⟩ := own_slice h.nms.on_
  have H := hide h.low
  have Hs := hide hs
  have hm : Hid (mean ns (.mk 16 s n [] f t a) = (.var (ns.length + 1), ns ++ [s])) := by show _ = _; simp [mean, addN_out hs, ix_snoc hs]
  have bb := ((Below.refl w.heap.size w).alloc (Nat.le_refl _) (.cells (nodeA ⟨16, s, n, none, 0, 0, f, t, a⟩) 62)).alloc (by simp) (.cells zTy 85)
  have HB := hide bb
  have BR := hide (Bx.at (w.alloc (.cells (nodeA ⟨16, s, n, none, 0, 0, f, t, a⟩) 62)) zTy 85 (w.heap.size + 1) (by simp))
  have BN := hide ((Bx.new w (nodeA ⟨16, s, n, none, 0, 0, f, t, a⟩) 62).alloc (.cells zTy 85))
  clear h hs bb
  unfold NV.v
  go_enter Tryz.func68, Tryz.ntmps68
  obtain ⟨c0, f0, y0⟩ := unhide BN
  obtain ⟨c1, f1, y1⟩ := unhide BR
  go_wp2_with fail
  refine (of_C ((unhide H).nms.bel (unhide HB)) (unhide H).un (by omega) s).mono ?_
  rintro e w1 ⟨y, b, rfl, hb, hor⟩
  obtain ⟨rfl, rfl⟩ : b = false ∧ y = TV.no := by
    rcases hor with ⟨_, h1, _⟩ | ⟨h1, _, h2⟩
    · exact absurd h1 (unhide Hs)
    · exact ⟨h1, h2⟩
  have HB1 := hide (((unhide HB).trans (hb.mono (by simp; omega))).alloc (Nat.le_trans (unhide HB).size (Nat.le_trans (by simp) hb.size)) (.cells zTy 85))
  have BR1 := hide (((unhide BR).below hb).alloc (.cells zTy 85))
  have BN1 := hide (((unhide BN).below hb).alloc (.cells zTy 85))
  have BT1 := hide (Bx.new w1 zTy 85)
  have hz1' : w.heap.size + 2 ≤ w1.heap.size := by have := hb.size; simp at this; omega
  clear hor HB BR BN c0 f0 y0 c1 f1 y1 hb
  unfold TV.v TV.no
  go_wp2_with fail
  refine (fresh_C ((unhide H).ks.bel (unhide HB1)) hN).mono ?_
  rintro e w3 ⟨hv', iv', rfl, hF3, hK3, hL3⟩
  have ml : ∀ b, b ∈ Mu kb nb hv iv (.slice la ns.length ca) (.slice lb ns.length cb) → b < w.heap.size := fun b hb => (unhide H).lt hb
  have nS : ∀ b, w.heap.size ≤ b → ¬ (b = kb ∨ KB hv iv b) := fun b hb k => by
    have : b ∈ Mu kb nb hv iv (.slice la ns.length ca) (.slice lb ns.length cb) := by
      rcases k with rfl | k | k <;> simp [Mu, *]
    have := ml b this
    omega
  have BR3 := hide ((unhide BR1).fr hF3 (nS _ (by omega)))
  have BN3 := hide ((unhide BN1).fr hF3 (nS _ (by omega)))
  have BT3 := hide ((unhide BT1).fr hF3 (nS _ (by omega)))
  have memS : ∀ b, (b = kb ∨ KB hv iv b) → b ∈ Mu kb nb hv iv (.slice la ns.length ca) (.slice lb ns.length cb) := fun b k => by rcases k with rfl | k | k <;> simp [Mu, *]
  have NS3 := hide (((unhide H).nms.bel (unhide HB1)).same hF3.size fun b hz hc => hF3.block b hz (by
    have nd := (unhide H).nd
    simp only [Mu, List.nodup_cons, List.nodup_append, List.mem_cons, List.mem_append, Option.mem_toList, not_or] at nd
    obtain ⟨⟨n1, n2⟩, n3, n4⟩ := nd
    rintro (rfl | k | k)
    · rcases hc with rfl | hc | hc
      · exact n1 rfl
      · exact n2.1.2 hc
      · exact n2.2 hc
    · rcases hc with rfl | hc | hc
      · exact n3.1.1.1 k
      · exact n4.1.2.2 b (Or.inl k) b hc rfl
      · exact n4.2.2 b (Or.inl (Or.inl k)) b hc rfl
    · rcases hc with rfl | hc | hc
      · exact n3.1.1.2 k
      · exact n4.1.2.2 b (Or.inr k) b hc rfl
      · exact n4.2.2 b (Or.inl (Or.inr k)) b hc rfl))
  have F3 : Hid (Fr (· ∈ Mu kb nb hv iv (.slice la ns.length ca) (.slice lb ns.length cb)) w w3) := ⟨hF3.os.trans (unhide HB1).os, hF3.tape.trans (unhide HB1).tape, hF3.output.trans (unhide HB1).output, Nat.le_trans (unhide HB1).size hF3.size, fun b hb hn => (hF3.block b (Nat.lt_of_lt_of_le hb (unhide HB1).size) (fun k => hn (memS b k))).trans ((unhide HB1).block b hb)⟩
  have K3 := hide hK3
  have L3 : Hid (∀ b, KB hv' iv' b → KB hv iv b ∨ w.heap.size + 2 ≤ b) := fun b hb => (hL3 b hb).imp id (fun k => by simp at k; omega)
  have L3' := hide hL3
  have hz3 : w1.heap.size < w3.heap.size := by have := hF3.size; simp at this; omega
  clear hF3 hK3 hL3 BR1 BN1 BT1 nS
  obtain ⟨c0, f0, y0⟩ := unhide BT3
  unfold TV.v
  go_wp2_with fail
  have BT4 := (unhide BT3).set3 rfl (.int .i64 ((ns.length : Int) + 1)) (.string ⟨#[]⟩) (.slice none 0 0)
  have BR4 := (((unhide BR3).setO (b2 := w1.heap.size) (by omega) 0 (.int .i64 ((ns.length : Int) + 1))).setO (b2 := w1.heap.size) (by omega) 1 (.string ⟨#[]⟩)).setO (b2 := w1.heap.size) (by omega) 2 (.slice none 0 0)
  have BN4 := (((unhide BN3).setO (b2 := w1.heap.size) (by omega) 0 (.int .i64 ((ns.length : Int) + 1))).setO (b2 := w1.heap.size) (by omega) 1 (.string ⟨#[]⟩)).setO (b2 := w1.heap.size) (by omega) 2 (.slice none 0 0)
  have nM1 : ¬ w1.heap.size ∈ Mu kb nb hv iv (.slice la ns.length ca) (.slice lb ns.length cb) := fun k => by have := ml _ k; omega
  have F4 := ((((unhide F3).set (b := w1.heap.size) (Or.inr (by omega)) 0 (.int .i64 ((ns.length : Int) + 1))).set (b := w1.heap.size) (Or.inr (by omega)) 1 (.string ⟨#[]⟩)).set (b := w1.heap.size) (Or.inr (by omega)) 2 (.slice none 0 0))
  have NS4 : NS (((w3.setCell ⟨w1.heap.size, 0, none⟩ (.int .i64 ((ns.length : Int) + 1))).setCell ⟨w1.heap.size, 1, none⟩ (.string ⟨#[]⟩)).setCell ⟨w1.heap.size, 2, none⟩ (.slice none 0 0)) nb (.slice la ns.length ca) (.slice lb ns.length cb) ns := (unhide NS3).same (by simp [World.setCell]) fun b hz hc => by
    have hm : b ∈ Mu kb nb hv iv (.slice la ns.length ca) (.slice lb ns.length cb) := by rcases hc with rfl | k | k <;> simp [Mu, *]
    have hne : b ≠ w1.heap.size := fun e => nM1 (e ▸ hm)
    rw [Below.heap_setCell _ _ _ _ hne, Below.heap_setCell _ _ _ _ hne, Below.heap_setCell _ _ _ _ hne]
  have n1 : w1.heap.size ≠ kb := fun e => nM1 (e ▸ by simp [Mu])
  have n2 : ¬ KB hv' iv' w1.heap.size := fun k => by
    rcases unhide L3' _ k with k | k
    · exact nM1 (memS _ (Or.inr k))
    · simp at k; omega
  have n3 : ¬ ((P w1.heap.size ∧ w1.heap.size < w.heap.size) ∧ w1.heap.size < (w1.alloc (.cells zTy 85)).heap.size) := by omega
  have KS4 := (((unhide K3).setO n1 n2 n3 0 (.int .i64 ((ns.length : Int) + 1))).setO n1 n2 n3 1 (.string ⟨#[]⟩)).setO n1 n2 n3 2 (.slice none 0 0)
  have hz4 : w1.heap.size < (((w3.setCell ⟨w1.heap.size, 0, none⟩ (.int .i64 ((ns.length : Int) + 1))).setCell ⟨w1.heap.size, 1, none⟩ (.string ⟨#[]⟩)).setCell ⟨w1.heap.size, 2, none⟩ (.slice none 0 0)).heap.size := by simpa [World.setCell] using hz3
  clear c0 f0 y0 BT3 BR3 BN3 F3 NS3 K3 n1 n2 n3 nM1 hz3
  generalize (((w3.setCell ⟨w1.heap.size, 0, none⟩ (.int .i64 ((ns.length : Int) + 1))).setCell ⟨w1.heap.size, 1, none⟩ (.string ⟨#[]⟩)).setCell ⟨w1.heap.size, 2, none⟩ (.slice none 0 0)) = w4 at BT4 BR4 BN4 F4 NS4 KS4 hz4 ⊢
  have BT4 := hide BT4
  have BR4 := hide BR4
  have BN4 := hide BN4
  have F4 := hide F4
  have NS4 := hide NS4
  have KS4 := hide KS4
  have nd := (unhide H).nd
  simp only [Mu, List.nodup_cons, List.nodup_append, List.mem_cons, List.mem_append, Option.mem_toList, not_or] at nd
  obtain ⟨⟨nd1, nd2⟩, nd3, nd4⟩ := nd
  have A4 : Hid (NSa w4 nb (.slice la ns.length ca) (.slice lb ns.length cb) ns ns.length) := ⟨(unhide NS4).c0, (unhide NS4).c1, (unhide NS4).fz, (unhide NS4).hk, (unhide NS4).ol, (unhide NS4).on_, nd3.1.2, nd3.2, fun b h1 h2 => nd4.2.2 b (Or.inr h1) b h2 rfl⟩
  have ob4 : Hid (∀ b, (b = nb ∨ KB (.slice la ns.length ca) (.slice lb ns.length cb) b) → b ∈ Mu kb nb hv iv (.slice la ns.length ca) (.slice lb ns.length cb)) := fun b k => by rcases k with rfl | k | k <;> simp [Mu, *]
  have sep : Hid (∀ b, (b = kb ∨ KB hv' iv' b ∨ ((P b ∧ b < w.heap.size) ∧ b < (w1.alloc (.cells zTy 85)).heap.size)) → (b = nb ∨ KB (.slice la ns.length ca) (.slice lb ns.length cb) b) → False) := by
    rintro b (rfl | k | k) hc
    · rcases hc with rfl | hc | hc
      · exact nd1 rfl
      · exact nd2.1.2 hc
      · exact nd2.2 hc
    · have hb := ml b (unhide ob4 b hc)
      rcases unhide L3 b k with (k | k) | k
      · rcases hc with rfl | hc | hc
        · exact nd3.1.1.1 k
        · exact nd4.1.2.2 b (Or.inl k) b hc rfl
        · exact nd4.2.2 b (Or.inl (Or.inl k)) b hc rfl
      · rcases hc with rfl | hc | hc
        · exact nd3.1.1.2 k
        · exact nd4.1.2.2 b (Or.inr k) b hc rfl
        · exact nd4.2.2 b (Or.inl (Or.inr k)) b hc rfl
      · omega
    · exact (unhide H).pm b k.1 (unhide ob4 b hc)
  have d0 := (unhide A4).c0
  have d1 := (unhide A4).c1
  have fd := (unhide A4).fz
  obtain ⟨cN, fN, yN⟩ := unhide BN4
  have hnb4 := (unhide A4).hk
  clear nd1 nd2 nd3 nd4 NS4
  go_cut [] from 31 (fun wc => ∃ g5 q5, NSa wc nb (.slice (some ⟨g5, 0, none⟩) (ns.length + 1) q5) (.slice lb ns.length cb) (ns ++ [s]) ns.length ∧ Fr (fun b => b = nb ∨ KB (.slice la ns.length ca) (.slice lb ns.length cb) b) w4 wc ∧ ((Value.slice la ns.length ca).ownBlock = some g5 ∨ w4.heap.size < g5))
  case first =>
    go_region_law (refine step_append_own rfl (.tmp 35) (.tmp 38) 81 rfl 0 9 i0 _ 1 16 strsUnder hi0 hz0 hz1 hz2 rfl (by decide) (.slice la ns.length ca) ns.length _ rfl (own_below (unhide A4).ol (((Below.refl _ _).alloc (Nat.le_refl _) _).drew)) ⟨w4.heap.size, 0, none⟩ 1 1 [.string s] rfl rfl (cells_at _ _ _ _ (by simp)) (by intro u hu; simp at hu; subst hu; rfl) (by unfold maxLen; omega) (by omega) (Nat.zero_le _) ?_; intro lv' w5 hown5 hg5 hloc5; obtain ⟨g5, q5, rfl, zg5, hq5⟩ := own_open hown5 (by omega); have z0 : w5.cell? ⟨nb, 0, none⟩ = some (.slice la ns.length ca) := (grown_cell hg5 nb 0 (by simp <;> omega) (fun j e k => (unhide A4).nl (by rw [e, k]))).trans ((oldCell ((Below.refl _ _).alloc (Nat.le_refl _) _).drew nb 0 hnb4).trans d0); have zf : ∀ j, w5.frozen? ⟨nb, j, none⟩ = false := fun o => (grown_frozen hg5 nb o (by simp <;> omega) (fun j e k => (unhide A4).nl (by rw [e, k]))).trans ((oldMark ((Below.refl _ _).alloc (Nat.le_refl _) _).drew nb o hnb4).trans (fd o)); have Hown5 := hide hown5; have Hg5 := hide hg5; have Hloc5 := hide hloc5; clear hown5 hg5 hloc5)
    all_goals go_wp2_with fail
    all_goals go_meet
    all_goals exact ⟨g5, q5, names_l (unhide A4) _ (unhide Hg5) (unhide Hown5) (unhide Hloc5)⟩
  case rest =>
    obtain ⟨g5, q5, a5, f5, l5⟩ := hcut
    have A5 := hide a5
    have L5 := hide l5
    have nob4 : ∀ b, w.heap.size ≤ b → ¬ (b = nb ∨ KB (.slice la ns.length ca) (.slice lb ns.length cb) b) := fun b hb k => by have := ml b (unhide ob4 b k); omega
    have BT5 := hide ((unhide BT4).fr f5 (nob4 _ (by omega)))
    have BR5 := hide ((unhide BR4).fr f5 (nob4 _ (by omega)))
    have KS5 := hide ((unhide KS4).same f5.size fun b hz hc => f5.block b hz (unhide sep b hc))
    have F5 := hide ((unhide F4).trans' f5 (fun b hb => Or.inl (unhide ob4 b hb)))
    have hz5 : w4.heap.size ≤ wc.heap.size := f5.size
    have nob : Hid (∀ b, (w.heap.size ≤ b ∧ b ≤ w4.heap.size) → ¬ (b = nb ∨ KB (.slice (some ⟨g5, 0, none⟩) (ns.length + 1) q5) (.slice lb ns.length cb) b)) := by
      rintro b hb (k | k | k)
      · exact nob4 b hb.1 (Or.inl k)
      · have e : b = g5 := by simpa [Value.ownBlock] using k.symm
        subst e
        rcases unhide L5 with k | k
        · exact nob4 b hb.1 (Or.inr (Or.inl k))
        · omega
      · exact nob4 b hb.1 (Or.inr (Or.inr k))
    have obM : Hid (∀ b, (b = nb ∨ KB (.slice (some ⟨g5, 0, none⟩) (ns.length + 1) q5) (.slice lb ns.length cb) b) → b ∈ Mu kb nb hv iv (.slice la ns.length ca) (.slice lb ns.length cb) ∨ w.heap.size ≤ b) := by
      rintro b (k | k | k)
      · exact Or.inl (unhide ob4 b (Or.inl k))
      · have e : b = g5 := by simpa [Value.ownBlock] using k.symm
        subst e
        rcases unhide L5 with k | k
        · exact Or.inl (unhide ob4 b (Or.inr (Or.inl k)))
        · exact Or.inr (by omega)
      · exact Or.inl (unhide ob4 b (Or.inr (Or.inr k)))
    have sep5 : Hid (∀ b, (b = kb ∨ KB hv' iv' b ∨ ((P b ∧ b < w.heap.size) ∧ b < (w1.alloc (.cells zTy 85)).heap.size)) → ¬ (b = nb ∨ KB (.slice (some ⟨g5, 0, none⟩) (ns.length + 1) q5) (.slice lb ns.length cb) b)) := by
      rintro b hb (k | k | k)
      · exact unhide sep b hb (Or.inl k)
      · have e : b = g5 := by simpa [Value.ownBlock] using k.symm
        subst e
        rcases unhide L5 with k | k
        · exact unhide sep b hb (Or.inr (Or.inl k))
        · rcases hb with rfl | hb | hb
          · have := (unhide KS4).hk; omega
          · have := (unhide KS4).kb_lt hb; omega
          · simp at hb; omega
      · exact unhide sep b hb (Or.inr (Or.inr k))
    clear a5 f5 l5 cN fN yN d0 d1 fd nob4 BN4
    have d0 := (unhide A5).c0
    have d1 := (unhide A5).c1
    have fd := (unhide A5).fz
    have hnb5 := (unhide A5).hk
    obtain ⟨cT, fT, yT⟩ := unhide BT5
    have zr := zrow (xs := (List.range ns.length).map fun i => varT (i + 1)) (N := ns.length) (by simp) (.int .i64 0) (.string ⟨#[]⟩) (.slice none 0 0)
    have hNN : (ns.length : Int) < (ns.length : Int) + 1 := by omega
    go_wp2_with fail
    go_cut [] from 31 (fun wd => ∃ g6 q6, NSa wd nb (.slice (some ⟨g5, 0, none⟩) (ns.length + 1) q5) (.slice (some ⟨g6, 0, none⟩) (ns.length + 1) q6) (ns ++ [s]) (ns.length + 1) ∧ Fr (fun b => b = nb ∨ KB (.slice (some ⟨g5, 0, none⟩) (ns.length + 1) q5) (.slice lb ns.length cb) b) wc wd ∧ ((Value.slice lb ns.length cb).ownBlock = some g6 ∨ wc.heap.size < g6))
    case first =>
      go_region_law (refine step_append_own rfl (.tmp 45) (.tmp 48) 77 rfl 0 85 i1 _ 3 48 typesUnder hi1 hy0 hy1 hy2 rfl (by decide) (.slice lb ns.length cb) ns.length _ rfl (own_below (unhide A5).on_ (((Below.refl _ _).alloc (Nat.le_refl _) _).drew)) ⟨wc.heap.size, 0, none⟩ 1 1 [.int .i64 0, .string ⟨#[]⟩, .slice none 0 0] rfl rfl (cells_at _ _ _ _ (by simp)) (by intro u hu; simp at hu; rcases hu with rfl | rfl | rfl <;> rfl) (by unfold maxLen; omega) (by omega) (Nat.zero_le _) ?_; intro nv' w6 hown6 hg6 hloc6; obtain ⟨g6, q6, rfl, zg6, hq6⟩ := own_open hown6 (by omega); have e0 := (own_cell hown6 (ns.length * 3) (by omega)).trans zr.1; have e1 := (own_cell hown6 (ns.length * 3 + 1) (by omega)).trans zr.2.1; have e2 := (own_cell hown6 (ns.length * 3 + 2) (by omega)).trans zr.2.2; have fg := own_mark hown6 (by omega); have z1 : w6.cell? ⟨nb, 1, none⟩ = some (.slice lb ns.length cb) := (grown_cell hg6 nb 1 (by simp <;> omega) (fun j e k => (unhide A5).nn (by rw [e, k]))).trans ((oldCell ((Below.refl _ _).alloc (Nat.le_refl _) _).drew nb 1 hnb5).trans d1); have zf1 : ∀ j, w6.frozen? ⟨nb, j, none⟩ = false := fun o => (grown_frozen hg6 nb o (by simp <;> omega) (fun j e k => (unhide A5).nn (by rw [e, k]))).trans ((oldMark ((Below.refl _ _).alloc (Nat.le_refl _) _).drew nb o hnb5).trans (fd o)); have ng6 : g6 ≠ nb := (fun e => by rcases hloc6 with k | k; exact (unhide A5).nn (by rw [← k, ← e]; rfl); simp [Value.ownBlock] at k; omega); have Hown6 := hide hown6; have Hg6 := hide hg6; have Hloc6 := hide hloc6; clear hown6 hg6 hloc6)
      all_goals go_wp2_with fail
      all_goals go_meet
      all_goals first
        | (obtain ⟨r1, r2, r3, _⟩ := names_n (unhide A5) _ (unhide Hg6) (unhide Hown6) (unhide Hloc6) (Or.inl rfl); exact ⟨g6, q6, r1, r2, r3⟩)
        | (obtain ⟨r1, r2, r3, _⟩ := names_n (unhide A5) _ (unhide Hg6) (unhide Hown6) (unhide Hloc6) (Or.inr rfl); exact ⟨g6, q6, r1, r2, r3⟩)
    case rest =>
      obtain ⟨g6, q6, a7, f7, l7⟩ := hcut
      have A7 := hide a7
      have L7 := hide l7
      have BT7 := hide ((unhide BT5).fr f7 (unhide nob _ (by omega)))
      have BR7 := hide ((unhide BR5).fr f7 (unhide nob _ (by omega)))
      have KS7 := hide ((unhide KS5).same f7.size fun b hz hc => f7.block b hz (unhide sep5 b hc))
      have F7 := hide ((unhide F5).trans' f7 (unhide obM))
      have hz7 := f7.size
      have lt5 : Hid (∀ b, (b = kb ∨ KB hv' iv' b ∨ ((P b ∧ b < w.heap.size) ∧ b < (w1.alloc (.cells zTy 85)).heap.size)) → b < w4.heap.size) := by
        rintro b (rfl | k | k)
        · exact (unhide KS4).hk
        · exact (unhide KS4).kb_lt k
        · simp at k; omega
      have sep7 : Hid (∀ b, (b = kb ∨ KB hv' iv' b ∨ ((P b ∧ b < w.heap.size) ∧ b < (w1.alloc (.cells zTy 85)).heap.size)) → ¬ (b = nb ∨ KB (.slice (some ⟨g5, 0, none⟩) (ns.length + 1) q5) (.slice (some ⟨g6, 0, none⟩) (ns.length + 1) q6) b)) := by
        rintro b hb (k | k | k)
        · exact unhide sep5 b hb (Or.inl k)
        · exact unhide sep5 b hb (Or.inr (Or.inl k))
        · have e : b = g6 := by simpa [Value.ownBlock] using k.symm
          subst e
          rcases unhide L7 with k | k
          · exact unhide sep5 b hb (Or.inr (Or.inr k))
          · have := unhide lt5 b hb; omega
      clear a7 f7 l7 d0 d1 fd cT fT yT BT5 BR5 KS5 F5 zr
      obtain ⟨cT, fT, yT⟩ := unhide BT7
      obtain ⟨cR, fR, yR⟩ := unhide BR7
      go_wp2_with fail
      have BF := hide ((unhide BR7).set3 rfl (.int .i64 ((ns.length : Int) + 1)) (.string ⟨#[]⟩) (.slice none 0 0))
      obtain ⟨cF, fF, zF⟩ := unhide BF
      have len : (ns ++ [s]).length = ns.length + 1 := by simp
      refine bodyPost_ret (v := TV.v (varT (ns.length + 1))) (by simp [results, Tryz.results68, go_sem, cF, TV.v, varT]) rfl ⟨varT (ns.length + 1), hv', iv', (.slice (some ⟨g5, 0, none⟩) (ns.length + 1) q5), (.slice (some ⟨g6, 0, none⟩) (ns.length + 1) q6), (fun b => P b ∧ b < w.heap.size), rfl, ?_, ?_, ?_, ?_, fun b p z => ⟨p, z⟩, fun b p => Or.inl p⟩
      · rw [unhide hm]
        have nR : ¬ w.heap.size + 1 ∈ Mu kb nb hv' iv' (.slice (some ⟨g5, 0, none⟩) (ns.length + 1) q5) (.slice (some ⟨g6, 0, none⟩) (ns.length + 1) q6) := by
          intro k
          rcases mem_Mu.1 k with (k | k) | k
          · have := ml kb (by simp [Mu]); omega
          · rcases unhide L3 _ k with k | k
            · have := ml _ (memS _ (Or.inr k)); omega
            · omega
          · rcases k with k | k | k
            · exact unhide nob _ ⟨by omega, by omega⟩ (Or.inl k)
            · exact unhide nob _ ⟨by omega, by omega⟩ (Or.inr (Or.inl k))
            · have e : w.heap.size + 1 = g6 := by simpa [Value.ownBlock] using k.symm
              rcases unhide L7 with k | k
              · exact unhide nob (w.heap.size + 1) ⟨by omega, by omega⟩ (Or.inr (Or.inr (by rw [e]; exact k)))
              · omega
        have kn : KN _ kb nb hv' iv' (.slice (some ⟨g5, 0, none⟩) (ns.length + 1) q5) (.slice (some ⟨g6, 0, none⟩) (ns.length + 1) q6) (ns ++ [s]) K (fun b => P b ∧ b < w.heap.size) :=
          ⟨by rw [len]; exact (unhide KS7).high (fun b q => (unhide KS7).pk b ⟨q, by simp; omega⟩), ⟨(unhide A7).c0, (unhide A7).c1, (unhide A7).fz, (unhide A7).hk, (unhide A7).ol, by rw [len]; exact (unhide A7).on_⟩,
           Mu_nodup (unhide KS7).nh (unhide KS7).ni (unhide KS7).na (unhide A7).nl (unhide A7).nn (unhide A7).na (fun b k => unhide sep7 b (by rcases k with k | k; exact Or.inl k; exact Or.inr (Or.inl k))),
           fun b q k => by
             have hb : b = kb ∨ KB hv' iv' b ∨ ((P b ∧ b < w.heap.size) ∧ b < (w1.alloc (.cells zTy 85)).heap.size) := Or.inr (Or.inr ⟨q, by simp; omega⟩)
             rcases mem_Mu.1 k with k | k
             · have := (unhide KS7).pk b ⟨q, by simp; omega⟩
               rcases k with k | k | k
               · exact this.1 k
               · exact this.2.1 k
               · exact this.2.2 k
             · exact unhide sep7 b hb k,
           by
             rw [List.nodup_append]
             refine ⟨(unhide H).un, by simp, ?_⟩
             rintro x hx y hy rfl
             simp at hy
             subst hy
             exact unhide Hs hx⟩
        exact kn.set3 nR (by omega) _ _ _
      · rw [unhide hm]; exact TR.var _ (by omega) (by show ns.length + 1 ≤ (ns ++ [s]).length; rw [len]; omega)
      · exact (((unhide F7).set (Or.inr (by omega)) _ _).set (Or.inr (by omega)) _ _).set (Or.inr (by omega)) _ _
      · intro b k
        rcases mem_Mu.1 k with (k | k) | k
        · exact Or.inl (by simp [Mu, k])
        · rcases unhide L3 _ k with k | k
          · exact Or.inl (memS _ (Or.inr k))
          · exact Or.inr (by omega)
        · rcases k with k | k | k
          · exact Or.inl (by simp [Mu, k])
          · exact unhide obM b (Or.inr (Or.inl k))
          · have e : b = g6 := by simpa [Value.ownBlock] using k.symm
            subst e
            rcases unhide L7 with k | k
            · exact unhide obM b (Or.inr (Or.inr k))
            · exact Or.inr (by omega)
end
end Go.Proofs.YtfflpeklkfjdnaaGreatDoor
namespace Go.Proofs.YtfflpeklkfjdnaaGreatDoor
open Go Go.RowKit Un

theorem NR.parts {w : World} {Q : Nat → Prop} {k : Nat} {s : ByteArray} {n : Nat} {L : List Nd} {f t a : Nat} {x : NV} (h : NR w Q (.mk k s n L f t a) x) :
    ∃ la cap, x = ⟨k, s, n, la, L.length, cap, f, t, a⟩ ∧ ∀ i (hi : i < L.length), ∃ g y, la = some ⟨g, 0, none⟩ ∧ (g < w.heap.size ∧ Q g) ∧ at7 w g i y ∧ NR w Q (L[i]) y := by
  cases h with
  | leaf => exact ⟨none, 0, rfl, fun i hi => by simp at hi⟩
  | row k s n L f t a g cap xs h0 hP hz hc hr => exact ⟨some ⟨g, 0, none⟩, cap, rfl, fun i hi => ⟨g, xs i, rfl, ⟨hz, hP⟩, hc i hi, hr i hi⟩⟩
theorem meanL_app : ∀ (a b : List Nd) (ns : List ByteArray), meanL ns (a ++ b) = ((meanL ns a).1 ++ (meanL (meanL ns a).2 b).1, (meanL (meanL ns a).2 b).2)
  | [], b, ns => by simp [meanL]
  | x :: a, b, ns => by simp [meanL, meanL_app a b]
theorem meanL_take (ns : List ByteArray) (L : List Nd) (j : Nat) (h : j < L.length) : meanL ns (L.take (j + 1)) = ((meanL ns (L.take j)).1 ++ [(mean (meanL ns (L.take j)).2 L[j]).1], (mean (meanL ns (L.take j)).2 L[j]).2) := by
  rw [List.take_succ_eq_append_getElem h, meanL_app]
  simp [meanL]
theorem meanL_le (ns : List ByteArray) (L : List Nd) (j : Nat) : (meanL ns (L.take j)).2.length ≤ (meanL ns L).2.length := by
  conv => rhs; rw [← List.take_append_drop j L, meanL_app]
  exact meanL_len _ _
theorem meanL_length : ∀ (L : List Nd) (ns : List ByteArray), (meanL ns L).1.length = L.length
  | [], ns => by simp [meanL]
  | x :: l, ns => by simp [meanL, meanL_length l]
/-- A type whose parts lie in a row of the call's own. -/
theorem TR.ofOwn {w : World} {P : Nat → Prop} {N : Nat} (c : ByteArray) (L : List Ty) (xs : List TV) {la : Option Addr} {cap base : Nat} (h0 : L = [] → la = none ∧ cap = 0) (hL : L.length ≤ 1001) (hl : xs.length = L.length) (ho : w.ownsRow base 85 3 (.slice la L.length cap) L.length (flat3 xs))
    (hr : ∀ i (h : i < L.length), TR w P N L[i] (xs[i]'(by omega))) (hP : ∀ b, (Value.slice la L.length cap).ownBlock = some b → P b) (hw : okN c L.length) : TR w P N (.con c L) ⟨0, c, la, L.length, cap⟩ := by
  by_cases e : L = []
  · subst e
    obtain ⟨rfl, rfl⟩ := h0 rfl
    exact .leaf c hw
  · have hn : 0 < L.length := List.length_pos_iff.2 e
    obtain ⟨g, cap', e1, e2, _⟩ := own_open ho hn
    cases e1
    have hx : ∀ i (h : i < L.length), xs.getD i TV.no = xs[i]'(by omega) := fun i h => by rw [List.getD_eq_getElem?_getD, List.getElem?_eq_getElem (by omega)]; rfl
    refine .row c L g cap (fun i => xs.getD i TV.no) hw e hL (hP g rfl) e2 (fun i hi j hj => ?_) (fun i hi => ?_)
    · rw [hx i hi, own_cell ho _ (by omega), flat3_at xs i j (by omega) hj]
    · rw [hx i hi]
      exact hr i hi
section
variable {w : World} {kb nb : Nat} {hv iv lv nv : Value} {ns : List ByteArray} {K : Nat → Option Ty} {P Q : Nat → Prop}
/-- Ahead of each round of meant. -/
def UpRel (w : World) (kb nb : Nat) (hv iv lv nv : Value) (ns : List ByteArray) (K : Nat → Option Ty) (P : Nat → Prop) (L : List Nd) (s : ByteArray) (CN : Array Value) (tb : Nat) (gk : Nat) (c : Value) (wr : World) : Prop :=
  ∃ (j : Nat) (hvj ivj lvj nvj : Value) (Qj : Nat → Prop) (xs : List TV) (la : Option Addr) (cap : Nat), Hid (gk = L.length - j) ∧ j ≤ L.length ∧ c = .int .i64 (j : Int) ∧
    KN wr kb nb hvj ivj lvj nvj (meanL ns (L.take j)).2 K Qj ∧ Hid (xs.length = j) ∧ (∀ i (h : i < xs.length) (h2 : i < (meanL ns (L.take j)).1.length), TR wr Qj (meanL ns (L.take j)).2.length ((meanL ns (L.take j)).1[i]) xs[i]) ∧
    Bx wr w.heap.size CN ∧ Bx wr (w.heap.size + 1) zTy ∧ Bx wr tb #[.int .i64 0, .string s, .slice la j cap] ∧ wr.ownsRow (tb + 1) 85 3 (.slice la j cap) j (flat3 xs) ∧ Hid (j = 0 → la = none ∧ cap = 0) ∧
    Fr (· ∈ Mu kb nb hv iv lv nv) w wr ∧ (∀ b, b ∈ Mu kb nb hvj ivj lvj nvj → b ∈ Mu kb nb hv iv lv nv ∨ tb < b) ∧ (∀ b, (P b ∧ b < w.heap.size) → Qj b) ∧ (∀ b, Qj b → (P b ∧ b < w.heap.size) ∨ tb < b) ∧ (∀ b, Qj b → b < wr.heap.size) ∧
    (∀ b, (Value.slice la j cap).ownBlock = some b → ¬ b ∈ Mu kb nb hvj ivj lvj nvj ∧ ¬ Qj b)

set_option maxRecDepth 100000 in
set_option maxHeartbeats 4000000 in
theorem meant_up (h : KN w kb nb hv iv lv nv ns K P) (s : ByteArray) (hw : ∀ n, okN s n) (n f t a cap : Nat) (la : Option Addr) (L : List Nd) (hL : L.length ≤ 1001) (hM : ∀ i (hi : i < L.length), MeantC L[i])
    (hp : ∀ i (hi : i < L.length), ∃ g y, la = some ⟨g, 0, none⟩ ∧ (g < w.heap.size ∧ Q g) ∧ at7 w g i y ∧ NR w Q (L[i]) y) (hQ : ∀ b, Q b → ¬ b ∈ Mu kb nb hv iv lv nv) (hN : (mean ns (.mk 2 s n L f t a)).2.length ≤ 1000) :
    Calls Tryz.prog 68 #[.pointer (some ⟨nb, 0, none⟩), .pointer (some ⟨kb, 0, none⟩), NV.v ⟨2, s, n, la, L.length, cap, f, t, a⟩] w (MeantPost kb nb hv iv lv nv ns K P (.mk 2 s n L f t a) w) := by
  obtain ⟨i1, hi1, hy0, hy1, hy2⟩ := info_parts refTypeInfo
  have hm : Hid (mean ns (.mk 2 s n L f t a) = (.con s (meanL ns L).1, (meanL ns L).2)) := by show _ = _; simp [mean, conN]
  have HN : Hid ((meanL ns L).2.length ≤ 1000) := by have := hN; rw [unhide hm] at this; exact this
  have H := hide h.low
  have HM := hide hM
  have Hp := hide hp
  have HQ : Hid (∀ b, (Q b ∧ b < w.heap.size) → ¬ b ∈ Mu kb nb hv iv lv nv) := fun b q => hQ b q.1
  have ml : Hid (∀ b, b ∈ Mu kb nb hv iv lv nv → b < w.heap.size) := fun b hb => h.lt hb
  have bb := ((Below.refl w.heap.size w).alloc (Nat.le_refl _) (.cells (nodeA ⟨2, s, n, la, L.length, cap, f, t, a⟩) 62)).alloc (by simp) (.cells zTy 85)
  have HB := hide bb
  have BR := hide (Bx.at (w.alloc (.cells (nodeA ⟨2, s, n, la, L.length, cap, f, t, a⟩) 62)) zTy 85 (w.heap.size + 1) (by simp))
  have BN := hide ((Bx.new w (nodeA ⟨2, s, n, la, L.length, cap, f, t, a⟩) 62).alloc (.cells zTy 85))
  clear h hM hp hQ hN bb
  unfold NV.v
  go_enter Tryz.func68, Tryz.ntmps68
  obtain ⟨c0, f0, y0⟩ := unhide BN
  obtain ⟨c1, f1, y1⟩ := unhide BR
  go_wp2_with fail
  refine (plain_C s).mono ?_
  rintro e w1 ⟨rfl, hb⟩
  have hs1 : w.heap.size + 2 ≤ w1.heap.size := by have := hb.size; simp at this; omega
  have BR1 := hide (((unhide BR).below hb).alloc (.cells #[.int .i64 0, .string s, .slice none 0 0] 85))
  have BN1 := hide (((unhide BN).below hb).alloc (.cells #[.int .i64 0, .string s, .slice none 0 0] 85))
  have BT1 := hide (Bx.new w1 #[.int .i64 0, .string s, .slice none 0 0] 85)
  have HB1 := hide (((unhide HB).trans (hb.mono (by simp; omega))).alloc (by omega) (.cells #[.int .i64 0, .string s, .slice none 0 0] 85))
  clear BR BN HB c0 f0 y0 c1 f1 y1 hb
  unfold TV.v
  go_wp2_with fail
  go_loopg [14] L.length (fun gk c wr => UpRel w kb nb hv iv lv nv ns K P L s (nodeA ⟨2, s, n, la, L.length, cap, f, t, a⟩) w1.heap.size gk c wr)
  case atStart =>
    refine ⟨0, hv, iv, lv, nv, (fun b => P b ∧ b < w.heap.size), [], none, 0, hide rfl, Nat.zero_le _, rfl, ?_, hide rfl, fun i h => by simp at h, unhide BN1, unhide BR1, unhide BT1, ⟨rfl, Or.inl ⟨rfl, rfl⟩⟩, hide (fun _ => ⟨rfl, rfl⟩), Fr.of (unhide HB1), fun b k => Or.inl k, fun b p => p, fun b p => Or.inl p, fun b p => by simp; omega, fun b e => by simp [Value.ownBlock] at e⟩
    simpa [meanL] using (unhide H).bel (unhide HB1)
  case round =>
    clear BR1 BN1 BT1 HB1
    obtain ⟨j, hvj, ivj, lvj, nvj, Qj, xs, la', cap', hgk, hj, rfl, hK, hxs, hT, BN, BR, BT, hO, h0, hF, hMu, hP1, hQ1, hQ2, hnb⟩ := hrel
    have HK := hide hK
    have HT := hide hT
    have BN := hide BN
    have BR := hide BR
    have BT := hide BT
    have HO := hide hO
    have HF := hide hF
    have HMu := hide hMu
    have HP1 := hide hP1
    have HQ1 := hide hQ1
    have HQ2 := hide hQ2
    have Hnb := hide hnb
    obtain ⟨c0, f0, y0⟩ := unhide BN
    obtain ⟨c1, f1, y1⟩ := unhide BR
    obtain ⟨c2, f2, y2⟩ := unhide BT
    clear hK hT hO hF hMu hP1 hQ1 hQ2 hnb
    by_cases hlt : j < L.length
    · have hlt' : (j : Int) < (L.length : Int) := by omega
      obtain ⟨g, y, rfl, ⟨zg, qg⟩, ha, hy⟩ := unhide Hp j hlt
      have ob : ∀ b, (Q b ∧ b < w.heap.size) → wr.heap[b]? = w.heap[b]? := fun b q => (unhide HF).block b q.2 (unhide HQ b q)
      have a1 : ∀ i, i < 7 → wr.cell? ⟨g, j * 7 + i, none⟩ = (y.l)[i]? := fun i hi => (World.cell?_of_block (a := ⟨g, j * 7 + i, none⟩) (ob g ⟨qg, zg⟩)).trans (ha i hi)
      have r0 := a1 0 (by omega)
      have r1 := a1 1 (by omega)
      have r2 := a1 2 (by omega)
      have r3 := a1 3 (by omega)
      have r4 := a1 4 (by omega)
      have r5 := a1 5 (by omega)
      have r6 := a1 6 (by omega)
      simp only [NV.l, List.getElem?_cons_zero, List.getElem?_cons_succ, Nat.add_zero] at r0 r1 r2 r3 r4 r5 r6
      have NY := hide (hy.low.move (w' := wr) (Q := fun b => Q b ∧ b < w.heap.size) (unhide HF).size (fun b q _ => ob b q) (fun _ q _ => q))
      have HQj : Hid (∀ b, (Q b ∧ b < w.heap.size) → ¬ b ∈ Mu kb nb hvj ivj lvj nvj) := fun b q k => by
        rcases unhide HMu b k with k | k
        · exact unhide HQ b q k
        · omega
      have hle : Hid ((mean (meanL ns (L.take j)).2 L[j]).2.length ≤ 1000) := by
        have h1 := meanL_le ns L (j + 1)
        rw [meanL_take ns L j hlt] at h1
        exact Nat.le_trans h1 (unhide HN)
      have nbx : ∀ b, (w.heap.size ≤ b ∧ b ≤ w1.heap.size) → ¬ b ∈ Mu kb nb hvj ivj lvj nvj := fun b hb k => by
        rcases unhide HMu b k with k | k
        · have := unhide ml b k; omega
        · omega
      clear ha hy a1 ob
      go_wp2_with fail
      refine (unhide HM j hlt _ kb nb hvj ivj lvj nvj _ K _ _ y (unhide HK) (unhide NY) (unhide HQj) (unhide hle)).mono ?_
      rintro e w2 ⟨y2, hv2, iv2, lv2, nv2, Q2, rfl, hK2, hT2, hF2, hM2, hP2, hQ2⟩
      have hs2 : wr.heap.size ≤ w2.heap.size := hF2.size
      have gl : ∀ b, (Value.slice la' j cap').ownBlock = some b → w1.heap.size + 1 ≤ b ∧ b < wr.heap.size := fun b e => own_block (unhide HO) b e
      have gn : ∀ b, (Value.slice la' j cap').ownBlock = some b → b ≠ w1.heap.size := fun b e k => by have := gl b e; omega
      have O2 := hide (own_same (unhide HO) (w' := w2) (fun b e => hF2.block b (gl b e).2 (unhide Hnb b e).1))
      have BN2 := hide ((unhide BN).fr hF2 (nbx _ (by omega)))
      have BR2 := hide ((unhide BR).fr hF2 (nbx _ (by omega)))
      have BT2 := hide ((unhide BT).fr hF2 (nbx _ (by omega)))
      have HK2 := hide hK2
      have HT2 := hide hT2
      have HF2 := hide hF2
      have HM2 := hide hM2
      have HP2 := hide hP2
      have HQ2' := hide hQ2
      have hxl := unhide hxs
      have tb2 : w1.heap.size < w2.heap.size := by omega
      clear hK2 hT2 hF2 hM2 hP2 hQ2 c0 f0 y0 c1 f1 y1 c2 f2 r0 r1 r2 r3 r4 r5 r6 hxs
      have hxs := hide hxl
      clear hxl
      obtain ⟨c2, f2, y2'⟩ := unhide BT2
      unfold TV.v
      go_wp2_with (at_builtin; go_must (refine wpList_append_own_at _ rfl (.tmp 111) (.tmp 113) 77 rfl (w1.heap.size + 1) 85 i1 _ 3 48 typesUnder hi1 hy0 hy1 hy2 rfl (by decide) (.slice la' j cap') j _ rfl (((unhide O2).alloc _).alloc _) ⟨w2.heap.size + 1, 0, none⟩ 1 1 [.int .i64 y2.n, .string y2.s, .slice y2.la y2.ll y2.lc] rfl rfl (cells_at _ _ _ _ (by simp)) (by intro u hu; simp at hu; rcases hu with rfl | rfl | rfl <;> rfl) (by unfold maxLen; omega) (by omega) (by simp; omega) ?_; intro v3 w3 hown3 hg3 hnil3 hloc3; obtain ⟨g3, q3, rfl, zg3, hq3⟩ := own_open hown3 (by omega); have t2 : w3.cell? ⟨w1.heap.size, 2, none⟩ = some (.slice la' j cap') := (grown_cell hg3 w1.heap.size 2 (by simp; omega) (fun b e => gn b e)).trans ((oldCell (((Below.refl w2.heap.size w2).alloc (Nat.le_refl _) _).alloc (by simp) _) w1.heap.size 2 tb2).trans (by rw [c2]; rfl)); have tf : ∀ i, w3.frozen? ⟨w1.heap.size, i, none⟩ = false := fun i => (grown_frozen hg3 w1.heap.size i (by simp; omega) (fun b e => gn b e)).trans ((oldMark (((Below.refl w2.heap.size w2).alloc (Nat.le_refl _) _).alloc (by simp) _) w1.heap.size i tb2).trans (f2 i)); have Hown3 := hide hown3; have Hg3 := hide hg3; have Hloc3 := hide hloc3; clear hown3 hg3 hloc3 hnil3 c2 f2))
      go_roundg (L.length - (j + 1))
      case measure => rw [unhide hgk]; omega
      case rel =>
        have bb2 := ((Below.refl w2.heap.size w2).alloc (Nat.le_refl _) (.cells #[.int .i64 y2.n, .string y2.s, .slice y2.la y2.ll y2.lc] 85)).alloc (by simp) (.cells #[.int .i64 y2.n, .string y2.s, .slice y2.la y2.ll y2.lc] 85)
        have b3 : ∀ b, b < w2.heap.size → (Value.slice la' j cap').ownBlock ≠ some b → w3.heap[b]? = w2.heap[b]? := fun b hb hn => ((unhide Hg3).block b (by simp; omega) (fun e => hn e.symm)).trans (bb2.block b hb)
        have hs3 : w2.heap.size + 2 ≤ w3.heap.size := by have := (unhide Hg3).size; simp at this; omega
        have keep : ∀ b, b < w2.heap.size → b ≠ w1.heap.size → (Value.slice la' j cap').ownBlock ≠ some b → (w3.setCell ⟨w1.heap.size, 2, none⟩ (.slice (some ⟨g3, 0, none⟩) (j + 1) q3)).heap[b]? = w2.heap[b]? := fun b hb hn hn2 => (Below.heap_setCell _ _ _ _ hn).trans (b3 b hb hn2)
        have sz : (w3.setCell ⟨w1.heap.size, 2, none⟩ (.slice (some ⟨g3, 0, none⟩) (j + 1) q3)).heap.size = w3.heap.size := by simp [World.setCell]
        have loc3 : (Value.slice la' j cap').ownBlock = some g3 ∨ w2.heap.size < g3 := by
          rcases unhide Hloc3 with e | e
          · exact Or.inl e.symm
          · simp [Value.ownBlock] at e; exact Or.inr (by omega)
        have qn : ∀ b, Q2 b → b ≠ w1.heap.size ∧ (Value.slice la' j cap').ownBlock ≠ some b := fun b q => by
          rcases unhide HQ2' b q with k | k
          · refine ⟨fun e => ?_, fun e => (unhide Hnb b e).2 k.1⟩
            rcases unhide HQ1 b k.1 with k | k <;> omega
          · exact ⟨by omega, fun e => by have := gl b e; omega⟩
        have mn : ∀ b, b ∈ Mu kb nb hv2 iv2 lv2 nv2 → b ≠ w1.heap.size ∧ (Value.slice la' j cap').ownBlock ≠ some b := fun b q => by
          rcases unhide HM2 b q with k | k
          · exact ⟨fun e => nbx _ (by omega) (e ▸ k), fun e => (unhide Hnb b e).1 k⟩
          · exact ⟨by omega, fun e => by have := gl b e; omega⟩
        refine ⟨j + 1, hv2, iv2, lv2, nv2, (fun b => Q2 b ∧ b < w2.heap.size), xs ++ [y2], some ⟨g3, 0, none⟩, q3, hide rfl, by omega, by go_num, ?_, hide (by have := unhide hxs; simp; omega), ?_, ?_, ?_, ?_, ?_, hide (fun h => by omega), ?_, ?_, ?_, ?_, ?_, ?_⟩
        · rw [meanL_take ns L j hlt]
          refine (unhide HK2).low.same (by omega) fun b hz hc => ?_
          rcases hc with hc | hc
          · exact keep b hz (mn b hc).1 (mn b hc).2
          · exact keep b hz (qn b hc.1).1 (qn b hc.1).2
        · have hE := meanL_take ns L j hlt
          generalize meanL ns (L.take (j + 1)) = M' at hE ⊢
          subst hE
          intro i hi hi2
          have hl := unhide hxs
          have hl2 : (meanL ns (L.take j)).1.length = j := by rw [meanL_length]; simp; omega
          by_cases e : i = j
          · subst e
            have e1 : ((meanL ns (L.take i)).1 ++ [(mean (meanL ns (L.take i)).2 L[i]).1])[i]'(by simp; omega) = (mean (meanL ns (L.take i)).2 L[i]).1 := by
              rw [List.getElem_append_right (by omega)]; simp
            have e2 : (xs ++ [y2])[i]'hi = y2 := by rw [List.getElem_append_right (by omega)]; simp
            rw [e2]
            show TR _ _ _ (((meanL ns (L.take i)).1 ++ [(mean (meanL ns (L.take i)).2 L[i]).1])[i]'(by simp; omega)) y2
            rw [e1]
            exact (unhide HT2).low.move (Nat.le_refl _) (by omega) (fun b q z => keep b q.2 (qn b q.1).1 (qn b q.1).2) (fun _ q _ => q)
          · have hi' : i < j := by simp at hi; omega
            have e1 : ((meanL ns (L.take j)).1 ++ [(mean (meanL ns (L.take j)).2 L[j]).1])[i]'(by simp; omega) = (meanL ns (L.take j)).1[i]'(by omega) := by
              rw [List.getElem_append_left (by omega)]
            have e2 : (xs ++ [y2])[i]'hi = xs[i]'(by omega) := by rw [List.getElem_append_left (by omega)]
            rw [e2]
            show TR _ _ _ (((meanL ns (L.take j)).1 ++ [(mean (meanL ns (L.take j)).2 L[j]).1])[i]'(by simp; omega)) _
            rw [e1]
            have qq : ∀ b, Qj b → Q2 b := fun b q => unhide HP2 b q (unhide HQ2 b q)
            exact (unhide HT i (by omega) (by omega)).move (mean_len _ _) (by omega) (fun b q z => (keep b (by omega) (qn b (qq b q)).1 (qn b (qq b q)).2).trans ((unhide HF2).block b z ((unhide HK).pm b q))) (fun b q z => ⟨qq b q, by omega⟩)
        · exact (unhide BN2).same (by omega) (keep _ (by omega) (by omega) (fun e => by have := gl _ e; omega))
        · exact (unhide BR2).same (by omega) (keep _ (by omega) (by omega) (fun e => by have := gl _ e; omega))
        · exact ((unhide BT2).same (w' := w3) (by omega) (b3 _ (by omega) (fun e => by have := gl _ e; omega))).setS 2 _ _ rfl (by simp)
        · have := own_oth (unhide Hown3) (b := w1.heap.size) (by
            intro e
            have e : g3 = w1.heap.size := by simpa [Value.ownBlock] using e
            rcases loc3 with k | k
            · have := gl g3 k; omega
            · omega) 2 (.slice (some ⟨g3, 0, none⟩) (j + 1) q3)
          rw [flat3_app]
          exact this
        · have f2 : Fr (· ∈ Mu kb nb hv iv lv nv) w w2 := (unhide HF).trans' (unhide HF2) (fun b k => by
            rcases unhide HMu b k with k | k
            · exact Or.inl k
            · exact Or.inr (by omega))
          exact f2.low ⟨(unhide Hg3).os, (unhide Hg3).tape, (unhide Hg3).output, by omega, fun b hb => keep b (by omega) (by omega) (fun e => by have := gl _ e; omega)⟩
        · intro b k
          rcases unhide HM2 b k with k | k
          · exact unhide HMu b k
          · exact Or.inr (by omega)
        · intro b p
          have q := unhide HP1 b p
          exact ⟨unhide HP2 b q (unhide HQ2 b q), by omega⟩
        · rintro b ⟨q, z⟩
          rcases unhide HQ2' b q with k | k
          · exact unhide HQ1 b k.1
          · exact Or.inr (by omega)
        · rintro b ⟨q, z⟩
          omega
        · intro b e
          have e : b = g3 := by simpa [Value.ownBlock] using e.symm
          subst e
          rcases loc3 with k | k
          · have g := gl b k
            exact ⟨fun m => (mn b m).2 k, fun q => (qn b q.1).2 k⟩
          · exact ⟨fun m => by have := (unhide HK2).lt m; omega, fun q => by omega⟩
    · have hlt' : decide ((j : Int) < (L.length : Int)) = false := by simp; omega
      obtain rfl : j = L.length := by omega
      have BF := hide ((unhide BR).set3 rfl (.int .i64 0) (.string s) (.slice la' L.length cap'))
      have nR : ¬ w.heap.size + 1 ∈ Mu kb nb hvj ivj lvj nvj := fun k => by
        rcases unhide HMu _ k with k | k
        · have := unhide ml _ k; omega
        · omega
      have nQ : ¬ Qj (w.heap.size + 1) := fun k => by rcases unhide HQ1 _ k with k | k <;> omega
      have own_gt : ∀ b, (Value.slice la' L.length cap').ownBlock = some b → w1.heap.size + 1 ≤ b := fun b e => (own_block (unhide HO) b e).1
      have KF := hide (((unhide HK).wide (Q := fun b => Qj b ∨ (Value.slice la' L.length cap').ownBlock = some b) (fun b q => Or.inl q) (fun b q k => by
        rcases q with q | q
        · exact (unhide HK).pm b q k
        · exact (unhide Hnb b q).1 k)).set3 nR (fun q => by
          rcases q with q | q
          · exact nQ q
          · have := own_gt _ q; omega) (.int .i64 0) (.string s) (.slice la' L.length cap'))
      have tl : L.take L.length = L := List.take_length
      have TF : Hid (TR (((wr.setCell ⟨w.heap.size + 1, 0, none⟩ (.int .i64 0)).setCell ⟨w.heap.size + 1, 1, none⟩ (.string s)).setCell ⟨w.heap.size + 1, 2, none⟩ (.slice la' L.length cap')) (fun b => Qj b ∨ (Value.slice la' L.length cap').ownBlock = some b) (meanL ns L).2.length (.con s (meanL ns L).1) ⟨0, s, la', L.length, cap'⟩) := by
        have hl := meanL_length L ns
        have hT := unhide HT
        have hO := unhide HO
        have h0' := unhide h0
        have hx := unhide hxs
        rw [tl] at hT
        have key := TR.ofOwn (w := ((wr.setCell ⟨w.heap.size + 1, 0, none⟩ (.int .i64 0)).setCell ⟨w.heap.size + 1, 1, none⟩ (.string s)).setCell ⟨w.heap.size + 1, 2, none⟩ (.slice la' L.length cap')) (P := fun b => Qj b ∨ (Value.slice la' L.length cap').ownBlock = some b) (N := (meanL ns L).2.length) s (meanL ns L).1 xs (la := la') (cap := cap') (base := w1.heap.size + 1) (fun e => h0' (by rw [← hl, e]; rfl)) (by omega) (by omega)
          (by
            rw [hl]
            have nb : (Value.slice la' L.length cap').ownBlock ≠ some (w.heap.size + 1) := fun e => by have := own_gt _ e; omega
            exact own_oth (own_oth (own_oth hO nb _ _) nb _ _) nb _ _)
          (fun i hi => ((hT i (by omega) hi).wide (Q := fun b => Qj b ∨ (Value.slice la' L.length cap').ownBlock = some b) (fun b q => Or.inl q)).set3 (fun q => by
            rcases q with q | q
            · exact nQ q
            · have := own_gt _ q; omega) _ _ _)
          (by rw [hl]; exact fun b e => Or.inr e) (hw _)
        rw [hl] at key
        exact key
      go_wp2_with fail
      obtain ⟨cF, fF, zF⟩ := unhide BF
      refine bodyPost_ret (v := TV.v ⟨0, s, la', L.length, cap'⟩) (by simp [results, Tryz.results68, go_sem, cF, TV.v]) rfl ⟨_, hvj, ivj, lvj, nvj, (fun b => Qj b ∨ (Value.slice la' L.length cap').ownBlock = some b), rfl, ?_, ?_, ?_, ?_, ?_, ?_⟩
      · rw [unhide hm]
        have := unhide KF
        rw [tl] at this
        exact this
      · rw [unhide hm]; exact unhide TF
      · exact (unhide HF).set3 (Or.inr (by omega)) _ _ _
      · intro b k
        rcases unhide HMu b k with k | k
        · exact Or.inl k
        · exact Or.inr (by omega)
      · exact fun b p z => Or.inl (unhide HP1 b ⟨p, z⟩)
      · intro b q
        rcases q with q | q
        · rcases unhide HQ1 b q with k | k
          · exact Or.inl k
          · exact Or.inr (by omega)
        · have := own_gt _ q; exact Or.inr (by omega)
end
/-- The meaning of every part that reads as a type is found as the document says. -/
theorem meant_C {nd : Nd} (h : TyNd nd) : MeantC nd := by
  induction h with
  | var s n f t a =>
    intro w kb nb hv iv lv nv ns K P Q x hK hx hQ hN
    cases hx with
    | leaf =>
      by_cases hs : s ∈ ns
      · exact meant_old hK (Nat.le_trans (mean_len _ _) hN) s n f t a hs
      · refine meant_new hK ?_ s n f t a hs
        simp [mean, addN_out hs] at hN
        omega
    | row _ _ _ _ _ _ _ _ _ _ h0 => exact absurd rfl h0
  | two k s n u v f t a hk _ _ ihu ihv =>
    intro w kb nb hv iv lv nv ns K P Q x hK hx hQ hN
    cases hx with
    | row _ _ _ _ _ _ _ g cap xs h0 hP hz hc hr =>
      have h1 := hr 0 (by simp)
      have h2 := hr 1 (by simp)
      rcases hk with rfl | rfl
      · exact meant_fn hK s n f t a g cap u v _ _ ihu ihv hP hz (hc 0 (by simp)) (hc 1 (by simp)) h1 h2 hQ hN
      · exact meant_pr hK s n f t a g cap u v _ _ ihu ihv hP hz (hc 0 (by simp)) (hc 1 (by simp)) h1 h2 hQ hN
  | up s n L f t a hw hl _ ih =>
    intro w kb nb hv iv lv nv ns K P Q x hK hx hQ hN
    obtain ⟨la, cap, rfl, hp⟩ := hx.parts
    exact meant_up hK s hw n f t a cap la L hl ih hp hQ hN
end Go.Proofs.YtfflpeklkfjdnaaGreatDoor
