import Derived.Test.YteneoapickhpdaaGreatDoorGPk
set_option linter.unusedSimpArgs false
set_option linter.unusedVariables false
set_option linter.unusedSectionVars false
namespace Go.Proofs.YteneoapickhpdaaGreatDoor
open Go Go.RowKit Go.ChangeMaps
/-- Maps and boxes, none of them the reader itself. -/
def Hold (w : World) (rb : Nat) (ms : List (Nat × List (ByteArray × Value))) (bs : List (Nat × Array Value)) : Prop :=
  (∀ p ∈ ms, p.1 ≠ rb ∧ MS Value.string w p.1 p.2) ∧ ∀ q ∈ bs, q.1 ≠ rb ∧ Bx w q.1 q.2
section
variable {w w' : World} {rb : Nat} {ms : List (Nat × List (ByteArray × Value))} {bs : List (Nat × Array Value)}
theorem Hold.ke (h : Hold w rb ms bs) (hk : Ke rb w w') : Hold w' rb ms bs :=
  ⟨fun p q => ⟨(h.1 p q).1, (h.1 p q).2.same (hk.block _ (h.1 p q).2.lt (h.1 p q).1)⟩, fun p q => ⟨(h.2 p q).1, (h.2 p q).2.ke hk (h.2 p q).1⟩⟩
theorem Hold.m (h : Hold w rb ms bs) {b : Nat} {L : List (ByteArray × Value)} (hn : rb < b) (hm : MS Value.string w b L) : Hold w rb ((b, L) :: ms) bs :=
  ⟨fun p q => by rcases List.mem_cons.1 q with rfl | q; exact ⟨Nat.ne_of_gt hn, hm⟩; exact h.1 p q, h.2⟩
theorem Hold.b (h : Hold w rb ms bs) {b : Nat} {C : Array Value} (hn : rb < b) (hm : Bx w b C) : Hold w rb ms ((b, C) :: bs) :=
  ⟨h.1, fun p q => by rcases List.mem_cons.1 q with rfl | q; exact ⟨Nat.ne_of_gt hn, hm⟩; exact h.2 p q⟩
theorem Hold.map (h : Hold w rb ms bs) {b : Nat} {L : List (ByteArray × Value)} (hm : (b, L) ∈ ms) : MapAt w w.heap.size rb (.map (some b)) L := ⟨b, rfl, (h.1 _ hm).2.lt, (h.1 _ hm).1, (h.1 _ hm).2⟩
theorem Hold.box (h : Hold w rb ms bs) {b : Nat} {C : Array Value} (hm : (b, C) ∈ bs) : BoxAt w w.heap.size rb b C := ⟨(h.2 _ hm).2.z, (h.2 _ hm).1, (h.2 _ hm).2⟩
end
def NewX (s : ByteArray) (w : World) (e : Ending) (w' : World) : Prop :=
  Below w.heap.size w w' ∧ (((nextTok s 0).kind ≠ 6 ∧ e = .returned (rp w.heap.size) ∧ ∃ N sb m, Bx w' w.heap.size (rdC s (nextTok s 0) 0 m sb) ∧ Env w' N w.heap.size sb m) ∨ ((nextTok s 0).kind = 6 ∧ e = gaveUp (flOf (nextTok s 0))))
section
variable {w : World}
theorem smallRules_X (rb : Nat) : Calls Tryz.prog 72 #[rp rb] w fun e w' => ∃ b, e = .returned (.map (some b)) ∧ w.heap.size ≤ b ∧ MS Value.string w' b (smL rb) ∧ Below w.heap.size w w' := smallRules_C' _
set_option maxRecDepth 100000 in
set_option maxHeartbeats 2000000 in
theorem newReader_X (h : Laid w) (s : ByteArray) (hs : s.size ≤ 1000) : Calls Tryz.prog 45 #[.string s] w (NewX s w) := by
  have B := hide (Bx.new w (zRd s) 117)
  have HB := hide ((Below.refl w.heap.size w).alloc (Nat.le_refl _) (.cells (zRd s) 117))
  have HL := hide h
  clear h
  have HH : Hid (Hold (w.alloc (.cells (zRd s) 117)) w.heap.size [] []) := hide ⟨fun p q => absurd q (by simp), fun p q => absurd q (by simp)⟩
  obtain ⟨c, f, z⟩ := unhide B
  have E : ∀ W, Laid W → Calls Tryz.prog 76 #[.string s, .int .i64 0] W (TokPost (nextTok s 0) W) := fun W hW => behind_C hW s 0 (Nat.zero_le _) hs
  have hne : ∀ W : World, Below w.heap.size w W → Laid W := fun W h => (unhide HL).bel h
  have hz := (unhide HL).hz
  unfold NewX
  generalize nextTok s 0 = T at E ⊢
  by_cases hk : T.kind = 6
  · go_enter Tryz.func45, Tryz.ntmps45
    go_wp2_with fail
    have zb0 := (unhide B).z
    refine (declRules_X w.heap.size).mono ?_
    intro e w1 hp
    obtain ⟨b0, rfl, le0, hM, hb⟩ := hp
    have HH := hide (((unhide HH).ke (Ke.of hb)).m (Nat.lt_of_lt_of_le zb0 le0) hM)
    have HB := hide ((unhide HB).trans (hb.mono (unhide HB).size))
    have B := hide ((unhide B).below hb)
    clear hb hM c f z zb0 le0
    obtain ⟨c, f, z⟩ := unhide B
    go_wp2_with fail
    have B := hide ((unhide B).setS' 6 (.map (some b0)) (#[.string s, .int .i64 0, .int .i64 0, .string ⟨#[]⟩, .string ⟨#[]⟩, .int .i64 0, .map (some b0), .map none, .map none, .map none, .map none, .map none, .map none, .map none]) rfl (by simp))
    have HB := hide ((unhide HB).setCell (p := ⟨w.heap.size, 6, none⟩) (Nat.le_refl _) (.map (some b0)))
    have HH := hide ((unhide HH).ke (Ke.set1 _ _ 6 (.map (some b0))))
    have zb1 := (unhide B).z
    refine (wordedRules_X w.heap.size).mono ?_
    intro e w1 hp
    obtain ⟨b1, rfl, le1, hM, hb⟩ := hp
    have HH := hide (((unhide HH).ke (Ke.of hb)).m (Nat.lt_of_lt_of_le zb1 le1) hM)
    have HB := hide ((unhide HB).trans (hb.mono (unhide HB).size))
    have B := hide ((unhide B).below hb)
    clear hb hM c f z zb1 le1
    obtain ⟨c, f, z⟩ := unhide B
    go_wp2_with fail
    have B := hide ((unhide B).setS' 7 (.map (some b1)) (#[.string s, .int .i64 0, .int .i64 0, .string ⟨#[]⟩, .string ⟨#[]⟩, .int .i64 0, .map (some b0), .map (some b1), .map none, .map none, .map none, .map none, .map none, .map none]) rfl (by simp))
    have HB := hide ((unhide HB).setCell (p := ⟨w.heap.size, 7, none⟩) (Nat.le_refl _) (.map (some b1)))
    have HH := hide ((unhide HH).ke (Ke.set1 _ _ 7 (.map (some b1))))
    have zb2 := (unhide B).z
    refine (atomRules_X w.heap.size).mono ?_
    intro e w1 hp
    obtain ⟨b2, x2, rfl, le2, lx2, hx, hM, hb⟩ := hp
    have HH := hide ((((unhide HH).ke (Ke.of hb)).m (Nat.lt_of_lt_of_le zb2 le2) hM).b (Nat.lt_of_lt_of_le zb2 lx2) hx)
    have HB := hide ((unhide HB).trans (hb.mono (unhide HB).size))
    have B := hide ((unhide B).below hb)
    clear hb hM c f z zb2 le2 hx lx2
    obtain ⟨c, f, z⟩ := unhide B
    go_wp2_with fail
    have B := hide ((unhide B).setS' 8 (.map (some b2)) (#[.string s, .int .i64 0, .int .i64 0, .string ⟨#[]⟩, .string ⟨#[]⟩, .int .i64 0, .map (some b0), .map (some b1), .map (some b2), .map none, .map none, .map none, .map none, .map none]) rfl (by simp))
    have HB := hide ((unhide HB).setCell (p := ⟨w.heap.size, 8, none⟩) (Nat.le_refl _) (.map (some b2)))
    have HH := hide ((unhide HH).ke (Ke.set1 _ _ 8 (.map (some b2))))
    have zb3 := (unhide B).z
    refine (plainRules_X w.heap.size).mono ?_
    intro e w1 hp
    obtain ⟨b3, x3, rfl, le3, lx3, hx, hM, hb⟩ := hp
    have HH := hide ((((unhide HH).ke (Ke.of hb)).m (Nat.lt_of_lt_of_le zb3 le3) hM).b (Nat.lt_of_lt_of_le zb3 lx3) hx)
    have HB := hide ((unhide HB).trans (hb.mono (unhide HB).size))
    have B := hide ((unhide B).below hb)
    clear hb hM c f z zb3 le3 hx lx3
    obtain ⟨c, f, z⟩ := unhide B
    go_wp2_with fail
    have B := hide ((unhide B).setS' 9 (.map (some b3)) (#[.string s, .int .i64 0, .int .i64 0, .string ⟨#[]⟩, .string ⟨#[]⟩, .int .i64 0, .map (some b0), .map (some b1), .map (some b2), .map (some b3), .map none, .map none, .map none, .map none]) rfl (by simp))
    have HB := hide ((unhide HB).setCell (p := ⟨w.heap.size, 9, none⟩) (Nat.le_refl _) (.map (some b3)))
    have HH := hide ((unhide HH).ke (Ke.set1 _ _ 9 (.map (some b3))))
    have zb4 := (unhide B).z
    refine (smallRules_X w.heap.size).mono ?_
    intro e w1 hp
    obtain ⟨b4, rfl, le4, hM, hb⟩ := hp
    have HH := hide (((unhide HH).ke (Ke.of hb)).m (Nat.lt_of_lt_of_le zb4 le4) hM)
    have HB := hide ((unhide HB).trans (hb.mono (unhide HB).size))
    have B := hide ((unhide B).below hb)
    clear hb hM c f z zb4 le4
    obtain ⟨c, f, z⟩ := unhide B
    go_wp2_with fail
    have B := hide ((unhide B).setS' 10 (.map (some b4)) (#[.string s, .int .i64 0, .int .i64 0, .string ⟨#[]⟩, .string ⟨#[]⟩, .int .i64 0, .map (some b0), .map (some b1), .map (some b2), .map (some b3), .map (some b4), .map none, .map none, .map none]) rfl (by simp))
    have HB := hide ((unhide HB).setCell (p := ⟨w.heap.size, 10, none⟩) (Nat.le_refl _) (.map (some b4)))
    have HH := hide ((unhide HH).ke (Ke.set1 _ _ 10 (.map (some b4))))
    have zb5 := (unhide B).z
    refine (comparisonRules_X w.heap.size).mono ?_
    intro e w1 hp
    obtain ⟨b5, x5, y5, rfl, le5, hx, hy, lx, ly, hM, hb⟩ := hp
    have HH := hide (((((unhide HH).ke (Ke.of hb)).m (Nat.lt_of_lt_of_le zb5 le5) hM).b (Nat.lt_of_lt_of_le zb5 lx) hx).b (Nat.lt_of_lt_of_le zb5 ly) hy)
    have HB := hide ((unhide HB).trans (hb.mono (unhide HB).size))
    have B := hide ((unhide B).below hb)
    clear hb hM c f z zb5 le5 hx hy lx ly
    obtain ⟨c, f, z⟩ := unhide B
    go_wp2_with fail
    have B := hide ((unhide B).setS' 11 (.map (some b5)) (#[.string s, .int .i64 0, .int .i64 0, .string ⟨#[]⟩, .string ⟨#[]⟩, .int .i64 0, .map (some b0), .map (some b1), .map (some b2), .map (some b3), .map (some b4), .map (some b5), .map none, .map none]) rfl (by simp))
    have HB := hide ((unhide HB).setCell (p := ⟨w.heap.size, 11, none⟩) (Nat.le_refl _) (.map (some b5)))
    have HH := hide ((unhide HH).ke (Ke.set1 _ _ 11 (.map (some b5))))
    have zb6 := (unhide B).z
    refine (sumRules_X w.heap.size).mono ?_
    intro e w1 hp
    obtain ⟨b6, x6, y6, u6, v6, rfl, le6, hx, hy, lx, ly, hu, hv, lu, lv, hM, hb⟩ := hp
    have HH := hide (((((((unhide HH).ke (Ke.of hb)).m (Nat.lt_of_lt_of_le zb6 le6) hM).b (Nat.lt_of_lt_of_le zb6 lx) hx).b (Nat.lt_of_lt_of_le zb6 ly) hy).b (Nat.lt_of_lt_of_le zb6 lu) hu).b (Nat.lt_of_lt_of_le zb6 lv) hv)
    have HB := hide ((unhide HB).trans (hb.mono (unhide HB).size))
    have B := hide ((unhide B).below hb)
    clear hb hM c f z zb6 le6 hx hy lx ly hu hv lu lv
    obtain ⟨c, f, z⟩ := unhide B
    go_wp2_with fail
    have B := hide ((unhide B).setS' 12 (.map (some b6)) (#[.string s, .int .i64 0, .int .i64 0, .string ⟨#[]⟩, .string ⟨#[]⟩, .int .i64 0, .map (some b0), .map (some b1), .map (some b2), .map (some b3), .map (some b4), .map (some b5), .map (some b6), .map none]) rfl (by simp))
    have HB := hide ((unhide HB).setCell (p := ⟨w.heap.size, 12, none⟩) (Nat.le_refl _) (.map (some b6)))
    have HH := hide ((unhide HH).ke (Ke.set1 _ _ 12 (.map (some b6))))
    have zb7 := (unhide B).z
    refine (productRules_X w.heap.size).mono ?_
    intro e w1 hp
    obtain ⟨b7, x7, y7, rfl, le7, hx, hy, lx, ly, hM, hb⟩ := hp
    have HH := hide (((((unhide HH).ke (Ke.of hb)).m (Nat.lt_of_lt_of_le zb7 le7) hM).b (Nat.lt_of_lt_of_le zb7 lx) hx).b (Nat.lt_of_lt_of_le zb7 ly) hy)
    have HB := hide ((unhide HB).trans (hb.mono (unhide HB).size))
    have B := hide ((unhide B).below hb)
    clear hb hM c f z zb7 le7 hx hy lx ly
    obtain ⟨c, f, z⟩ := unhide B
    go_wp2_with fail
    have B := hide ((unhide B).setS' 13 (.map (some b7)) (#[.string s, .int .i64 0, .int .i64 0, .string ⟨#[]⟩, .string ⟨#[]⟩, .int .i64 0, .map (some b0), .map (some b1), .map (some b2), .map (some b3), .map (some b4), .map (some b5), .map (some b6), .map (some b7)]) rfl (by simp))
    have HB := hide ((unhide HB).setCell (p := ⟨w.heap.size, 13, none⟩) (Nat.le_refl _) (.map (some b7)))
    have HH := hide ((unhide HH).ke (Ke.set1 _ _ 13 (.map (some b7))))
    refine (E _ (hne _ (unhide HB))).mono ?_
    intro e w9 hp
    obtain ⟨rfl, hb⟩ := hp.bad hk
    have HB := hide ((unhide HB).trans (hb.mono (unhide HB).size))
    clear hb
    exact ⟨rfl, unhide HB, Or.inr ⟨hk, by rw [guBad T hk]; rfl⟩⟩
  · go_enter Tryz.func45, Tryz.ntmps45
    go_wp2_with fail
    have zb0 := (unhide B).z
    refine (declRules_X w.heap.size).mono ?_
    intro e w1 hp
    obtain ⟨b0, rfl, le0, hM, hb⟩ := hp
    have HH := hide (((unhide HH).ke (Ke.of hb)).m (Nat.lt_of_lt_of_le zb0 le0) hM)
    have HB := hide ((unhide HB).trans (hb.mono (unhide HB).size))
    have B := hide ((unhide B).below hb)
    clear hb hM c f z zb0 le0
    obtain ⟨c, f, z⟩ := unhide B
    go_wp2_with fail
    have B := hide ((unhide B).setS' 6 (.map (some b0)) (#[.string s, .int .i64 0, .int .i64 0, .string ⟨#[]⟩, .string ⟨#[]⟩, .int .i64 0, .map (some b0), .map none, .map none, .map none, .map none, .map none, .map none, .map none]) rfl (by simp))
    have HB := hide ((unhide HB).setCell (p := ⟨w.heap.size, 6, none⟩) (Nat.le_refl _) (.map (some b0)))
    have HH := hide ((unhide HH).ke (Ke.set1 _ _ 6 (.map (some b0))))
    have zb1 := (unhide B).z
    refine (wordedRules_X w.heap.size).mono ?_
    intro e w1 hp
    obtain ⟨b1, rfl, le1, hM, hb⟩ := hp
    have HH := hide (((unhide HH).ke (Ke.of hb)).m (Nat.lt_of_lt_of_le zb1 le1) hM)
    have HB := hide ((unhide HB).trans (hb.mono (unhide HB).size))
    have B := hide ((unhide B).below hb)
    clear hb hM c f z zb1 le1
    obtain ⟨c, f, z⟩ := unhide B
    go_wp2_with fail
    have B := hide ((unhide B).setS' 7 (.map (some b1)) (#[.string s, .int .i64 0, .int .i64 0, .string ⟨#[]⟩, .string ⟨#[]⟩, .int .i64 0, .map (some b0), .map (some b1), .map none, .map none, .map none, .map none, .map none, .map none]) rfl (by simp))
    have HB := hide ((unhide HB).setCell (p := ⟨w.heap.size, 7, none⟩) (Nat.le_refl _) (.map (some b1)))
    have HH := hide ((unhide HH).ke (Ke.set1 _ _ 7 (.map (some b1))))
    have zb2 := (unhide B).z
    refine (atomRules_X w.heap.size).mono ?_
    intro e w1 hp
    obtain ⟨b2, x2, rfl, le2, lx2, hx, hM, hb⟩ := hp
    have HH := hide ((((unhide HH).ke (Ke.of hb)).m (Nat.lt_of_lt_of_le zb2 le2) hM).b (Nat.lt_of_lt_of_le zb2 lx2) hx)
    have HB := hide ((unhide HB).trans (hb.mono (unhide HB).size))
    have B := hide ((unhide B).below hb)
    clear hb hM c f z zb2 le2 hx lx2
    obtain ⟨c, f, z⟩ := unhide B
    go_wp2_with fail
    have B := hide ((unhide B).setS' 8 (.map (some b2)) (#[.string s, .int .i64 0, .int .i64 0, .string ⟨#[]⟩, .string ⟨#[]⟩, .int .i64 0, .map (some b0), .map (some b1), .map (some b2), .map none, .map none, .map none, .map none, .map none]) rfl (by simp))
    have HB := hide ((unhide HB).setCell (p := ⟨w.heap.size, 8, none⟩) (Nat.le_refl _) (.map (some b2)))
    have HH := hide ((unhide HH).ke (Ke.set1 _ _ 8 (.map (some b2))))
    have zb3 := (unhide B).z
    refine (plainRules_X w.heap.size).mono ?_
    intro e w1 hp
    obtain ⟨b3, x3, rfl, le3, lx3, hx, hM, hb⟩ := hp
    have HH := hide ((((unhide HH).ke (Ke.of hb)).m (Nat.lt_of_lt_of_le zb3 le3) hM).b (Nat.lt_of_lt_of_le zb3 lx3) hx)
    have HB := hide ((unhide HB).trans (hb.mono (unhide HB).size))
    have B := hide ((unhide B).below hb)
    clear hb hM c f z zb3 le3 hx lx3
    obtain ⟨c, f, z⟩ := unhide B
    go_wp2_with fail
    have B := hide ((unhide B).setS' 9 (.map (some b3)) (#[.string s, .int .i64 0, .int .i64 0, .string ⟨#[]⟩, .string ⟨#[]⟩, .int .i64 0, .map (some b0), .map (some b1), .map (some b2), .map (some b3), .map none, .map none, .map none, .map none]) rfl (by simp))
    have HB := hide ((unhide HB).setCell (p := ⟨w.heap.size, 9, none⟩) (Nat.le_refl _) (.map (some b3)))
    have HH := hide ((unhide HH).ke (Ke.set1 _ _ 9 (.map (some b3))))
    have zb4 := (unhide B).z
    refine (smallRules_X w.heap.size).mono ?_
    intro e w1 hp
    obtain ⟨b4, rfl, le4, hM, hb⟩ := hp
    have HH := hide (((unhide HH).ke (Ke.of hb)).m (Nat.lt_of_lt_of_le zb4 le4) hM)
    have HB := hide ((unhide HB).trans (hb.mono (unhide HB).size))
    have B := hide ((unhide B).below hb)
    clear hb hM c f z zb4 le4
    obtain ⟨c, f, z⟩ := unhide B
    go_wp2_with fail
    have B := hide ((unhide B).setS' 10 (.map (some b4)) (#[.string s, .int .i64 0, .int .i64 0, .string ⟨#[]⟩, .string ⟨#[]⟩, .int .i64 0, .map (some b0), .map (some b1), .map (some b2), .map (some b3), .map (some b4), .map none, .map none, .map none]) rfl (by simp))
    have HB := hide ((unhide HB).setCell (p := ⟨w.heap.size, 10, none⟩) (Nat.le_refl _) (.map (some b4)))
    have HH := hide ((unhide HH).ke (Ke.set1 _ _ 10 (.map (some b4))))
    have zb5 := (unhide B).z
    refine (comparisonRules_X w.heap.size).mono ?_
    intro e w1 hp
    obtain ⟨b5, x5, y5, rfl, le5, hx, hy, lx, ly, hM, hb⟩ := hp
    have HH := hide (((((unhide HH).ke (Ke.of hb)).m (Nat.lt_of_lt_of_le zb5 le5) hM).b (Nat.lt_of_lt_of_le zb5 lx) hx).b (Nat.lt_of_lt_of_le zb5 ly) hy)
    have HB := hide ((unhide HB).trans (hb.mono (unhide HB).size))
    have B := hide ((unhide B).below hb)
    clear hb hM c f z zb5 le5 hx hy lx ly
    obtain ⟨c, f, z⟩ := unhide B
    go_wp2_with fail
    have B := hide ((unhide B).setS' 11 (.map (some b5)) (#[.string s, .int .i64 0, .int .i64 0, .string ⟨#[]⟩, .string ⟨#[]⟩, .int .i64 0, .map (some b0), .map (some b1), .map (some b2), .map (some b3), .map (some b4), .map (some b5), .map none, .map none]) rfl (by simp))
    have HB := hide ((unhide HB).setCell (p := ⟨w.heap.size, 11, none⟩) (Nat.le_refl _) (.map (some b5)))
    have HH := hide ((unhide HH).ke (Ke.set1 _ _ 11 (.map (some b5))))
    have zb6 := (unhide B).z
    refine (sumRules_X w.heap.size).mono ?_
    intro e w1 hp
    obtain ⟨b6, x6, y6, u6, v6, rfl, le6, hx, hy, lx, ly, hu, hv, lu, lv, hM, hb⟩ := hp
    have HH := hide (((((((unhide HH).ke (Ke.of hb)).m (Nat.lt_of_lt_of_le zb6 le6) hM).b (Nat.lt_of_lt_of_le zb6 lx) hx).b (Nat.lt_of_lt_of_le zb6 ly) hy).b (Nat.lt_of_lt_of_le zb6 lu) hu).b (Nat.lt_of_lt_of_le zb6 lv) hv)
    have HB := hide ((unhide HB).trans (hb.mono (unhide HB).size))
    have B := hide ((unhide B).below hb)
    clear hb hM c f z zb6 le6 hx hy lx ly hu hv lu lv
    obtain ⟨c, f, z⟩ := unhide B
    go_wp2_with fail
    have B := hide ((unhide B).setS' 12 (.map (some b6)) (#[.string s, .int .i64 0, .int .i64 0, .string ⟨#[]⟩, .string ⟨#[]⟩, .int .i64 0, .map (some b0), .map (some b1), .map (some b2), .map (some b3), .map (some b4), .map (some b5), .map (some b6), .map none]) rfl (by simp))
    have HB := hide ((unhide HB).setCell (p := ⟨w.heap.size, 12, none⟩) (Nat.le_refl _) (.map (some b6)))
    have HH := hide ((unhide HH).ke (Ke.set1 _ _ 12 (.map (some b6))))
    have zb7 := (unhide B).z
    refine (productRules_X w.heap.size).mono ?_
    intro e w1 hp
    obtain ⟨b7, x7, y7, rfl, le7, hx, hy, lx, ly, hM, hb⟩ := hp
    have HH := hide (((((unhide HH).ke (Ke.of hb)).m (Nat.lt_of_lt_of_le zb7 le7) hM).b (Nat.lt_of_lt_of_le zb7 lx) hx).b (Nat.lt_of_lt_of_le zb7 ly) hy)
    have HB := hide ((unhide HB).trans (hb.mono (unhide HB).size))
    have B := hide ((unhide B).below hb)
    clear hb hM c f z zb7 le7 hx hy lx ly
    obtain ⟨c, f, z⟩ := unhide B
    go_wp2_with fail
    have B := hide ((unhide B).setS' 13 (.map (some b7)) (#[.string s, .int .i64 0, .int .i64 0, .string ⟨#[]⟩, .string ⟨#[]⟩, .int .i64 0, .map (some b0), .map (some b1), .map (some b2), .map (some b3), .map (some b4), .map (some b5), .map (some b6), .map (some b7)]) rfl (by simp))
    have HB := hide ((unhide HB).setCell (p := ⟨w.heap.size, 13, none⟩) (Nat.le_refl _) (.map (some b7)))
    have HH := hide ((unhide HH).ke (Ke.set1 _ _ 13 (.map (some b7))))
    refine (E _ (hne _ (unhide HB))).mono ?_
    intro e w9 hp
    obtain ⟨rfl, hb⟩ := hp.ok hk
    have HB := hide ((unhide HB).trans (hb.mono (unhide HB).size))
    have B := hide ((unhide B).below hb)
    have HH := hide ((unhide HH).ke (Ke.of hb))
    clear hb c f z
    obtain ⟨c, f, z⟩ := unhide B
    go_wp2_with fail
    go_ret
    have HB2 := ((((unhide HB).setCell (p := ⟨w.heap.size, 1, none⟩) (Nat.le_refl _) (.int .i64 (T.frm : Int))).setCell (p := ⟨w.heap.size, 2, none⟩) (Nat.le_refl _) (.int .i64 (T.to : Int))).setCell (p := ⟨w.heap.size, 3, none⟩) (Nat.le_refl _) (.string (kindB T))).setCell (p := ⟨w.heap.size, 4, none⟩) (Nat.le_refl _) (.string T.text)
    have HH2 := (((((unhide HH).ke (Ke.set1 _ _ 1 (.int .i64 (T.frm : Int)))).ke (Ke.set1 _ _ 2 (.int .i64 (T.to : Int)))).ke (Ke.set1 _ _ 3 (.string (kindB T)))).ke (Ke.set1 _ _ 4 (.string T.text)))
    have B2 := (unhide B).set4at (.int .i64 (T.frm : Int)) (.int .i64 (T.to : Int)) (.string (kindB T)) (.string T.text)
    generalize (((w9.setCell ⟨w.heap.size, 1, none⟩ (.int .i64 (T.frm : Int))).setCell ⟨w.heap.size, 2, none⟩ (.int .i64 (T.to : Int))).setCell ⟨w.heap.size, 3, none⟩ (.string (kindB T))).setCell ⟨w.heap.size, 4, none⟩ (.string T.text) = W at HB2 HH2 B2 ⊢
    have sm4 := HH2.map (b := b4) (L := smL w.heap.size) (List.Mem.tail _ (List.Mem.tail _ (List.Mem.tail _ (List.Mem.head _))))
    obtain ⟨_, q1, q2, q3, q4⟩ := sm4
    cases q1
    refine ⟨HB2, Or.inl ⟨hk, rfl, W.heap.size, b4, ⟨.map (some b0), .map (some b1), .map (some b2), .map (some b3), .map (some b5), .map (some b6), .map (some b7)⟩, B2, q4, hne _ HB2, hz, B2.z, q2, q3, Nat.le_refl _, ?_⟩⟩
    exact ⟨HH2.map (List.Mem.tail _ (List.Mem.tail _ (List.Mem.tail _ (List.Mem.tail _ (List.Mem.tail _ (List.Mem.tail _ (List.Mem.tail _ (List.Mem.head _)))))))), HH2.map (List.Mem.tail _ (List.Mem.tail _ (List.Mem.tail _ (List.Mem.tail _ (List.Mem.tail _ (List.Mem.tail _ (List.Mem.head _))))))), ⟨x2, HH2.box (List.Mem.tail _ (List.Mem.tail _ (List.Mem.tail _ (List.Mem.tail _ (List.Mem.tail _ (List.Mem.tail _ (List.Mem.tail _ (List.Mem.tail _ (List.Mem.tail _ (List.Mem.head _)))))))))), HH2.map (List.Mem.tail _ (List.Mem.tail _ (List.Mem.tail _ (List.Mem.tail _ (List.Mem.tail _ (List.Mem.head _))))))⟩, ⟨x3, HH2.box (List.Mem.tail _ (List.Mem.tail _ (List.Mem.tail _ (List.Mem.tail _ (List.Mem.tail _ (List.Mem.tail _ (List.Mem.tail _ (List.Mem.tail _ (List.Mem.head _))))))))), HH2.map (List.Mem.tail _ (List.Mem.tail _ (List.Mem.tail _ (List.Mem.tail _ (List.Mem.head _)))))⟩, ⟨x5, y5, HH2.box (List.Mem.tail _ (List.Mem.tail _ (List.Mem.tail _ (List.Mem.tail _ (List.Mem.tail _ (List.Mem.tail _ (List.Mem.tail _ (List.Mem.head _)))))))), HH2.box (List.Mem.tail _ (List.Mem.tail _ (List.Mem.tail _ (List.Mem.tail _ (List.Mem.tail _ (List.Mem.tail _ (List.Mem.head _))))))), HH2.map (List.Mem.tail _ (List.Mem.tail _ (List.Mem.head _)))⟩, ⟨x6, y6, u6, v6, HH2.box (List.Mem.tail _ (List.Mem.tail _ (List.Mem.tail _ (List.Mem.tail _ (List.Mem.tail _ (List.Mem.head _)))))), HH2.box (List.Mem.tail _ (List.Mem.tail _ (List.Mem.tail _ (List.Mem.tail _ (List.Mem.head _))))), HH2.box (List.Mem.tail _ (List.Mem.tail _ (List.Mem.tail _ (List.Mem.head _)))), HH2.box (List.Mem.tail _ (List.Mem.tail _ (List.Mem.head _))), HH2.map (List.Mem.tail _ (List.Mem.head _))⟩, ⟨x7, y7, HH2.box (List.Mem.tail _ (List.Mem.head _)), HH2.box (List.Mem.head _), HH2.map (List.Mem.head _)⟩⟩
end
end Go.Proofs.YteneoapickhpdaaGreatDoor
