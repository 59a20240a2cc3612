import Derived.Test.YteneoapickhpdaaGreatDoorGZf
set_option linter.unusedSimpArgs false
set_option linter.unusedVariables false
set_option linter.unusedSectionVars false
namespace Go.Proofs.YteneoapickhpdaaGreatDoor
open Go Go.RowKit Go.ChangeMaps Un
section
variable {w : World}
set_option maxRecDepth 100000 in
set_option maxHeartbeats 2000000 in
theorem bareE_fn (s : ByteArray) (n : Nat) (x : Nd) (f t a : Nat) (hss : s.size ≤ 1000) (Hx : AtEC x) : BareEC (.mk 9 s n [x] f t a) := by
  intro w B pb bv l last mv Q v h hp hq hm hl hB
  cases hp with
  | fn s n x f t a y vx hs hy hx =>
  have hx0 := hx
  obtain ⟨tx, xx, rfl⟩ := hx.iface
  have esh := sh_fn s n x f t a
  rw [esh] at hl ⊢
  simp only [List.length_append, List.length_cons, List.length_nil] at hl
  have ha0 := taExpr_Fun_Fun
  obtain ⟨n1, n2, n3⟩ := low_ne hs
  have hfi := fine_low hs
  have hbW : Below w.heap.size w (w.alloc (.cells #[.int .i64 (f : Int), .int .i64 (t : Int), .int .i64 (a : Int), .int .i64 (y : Int), .string s, .iface tx (.agg xx)] 228)) := ((Below.refl _ _).alloc (Nat.le_refl _) (.cells #[.int .i64 (f : Int), .int .i64 (t : Int), .int .i64 (a : Int), .int .i64 (y : Int), .string s, .iface tx (.agg xx)] 228))
  have zW : (w.alloc (.cells #[.int .i64 (f : Int), .int .i64 (t : Int), .int .i64 (a : Int), .int .i64 (y : Int), .string s, .iface tx (.agg xx)] 228)).heap.size = w.heap.size + 1 := by simp
  have FW := FN.of (B := B) (pb := pb) hbW
  have hzp := h.lt
  have N0 := hide (h.bel hbW)
  have F0 := hide (FN.refl B pb (w.alloc (.cells #[.int .i64 (f : Int), .int .i64 (t : Int), .int .i64 (a : Int), .int .i64 (y : Int), .string s, .iface tx (.agg xx)] 228)))
  have BXb := hide (Bx.at w #[.int .i64 (f : Int), .int .i64 (t : Int), .int .i64 (a : Int), .int .i64 (y : Int), .string s, .iface tx (.agg xx)] 228 (w.heap.size) (by simp))
  have Vx := hide (hx0.bel hbW)
  have HM := hide (hm.fn FW)
  clear hm
  clear hy
  have HQ := hide (hq.fn FW)
  clear h hq
  go_enter Tryz.func136, Tryz.ntmps136
  have zp1 := (unhide N0).lt
  rw [zW] at zp1
  have hb1 : Below (w.alloc (.cells #[.int .i64 (f : Int), .int .i64 (t : Int), .int .i64 (a : Int), .int .i64 (y : Int), .string s, .iface tx (.agg xx)] 228)).heap.size (w.alloc (.cells #[.int .i64 (f : Int), .int .i64 (t : Int), .int .i64 (a : Int), .int .i64 (y : Int), .string s, .iface tx (.agg xx)] 228)) ((w.alloc (.cells #[.int .i64 (f : Int), .int .i64 (t : Int), .int .i64 (a : Int), .int .i64 (y : Int), .string s, .iface tx (.agg xx)] 228)).alloc (.cells #[.string kFun, .string s, .string kArrow] 9)) := (Below.refl _ _).alloc (Nat.le_refl _) _
  have eT1 : putsL l last [kFun, s, kArrow] = (((l ++ (sep last ++ [102, 117, 110])) ++ ([32] ++ s.toList)) ++ ([32] ++ [45, 62])) := by
    show (putL' (putL' (putL' l last kFun) kFun s) s kArrow) = _
    rw [putLoose (toList_mk [102, 117, 110]) (by decide) (by decide) (by decide), putLoose rfl n1 n2 n3, sepTok (toList_mk [102, 117, 110]) (by decide) (by decide), putLoose (toList_mk [45, 62]) (by decide) (by decide) (by decide), sep_fine hfi]
  have HP1 := puts_C ((unhide N0).bel hb1) [kFun, s, kArrow] (by intro t ht; simp only [List.mem_cons, List.not_mem_nil, or_false] at ht; rcases ht with rfl | rfl | rfl <;> first | decide | assumption) (by simp) (by first | omega | (simp only [List.length_append, List.length_cons, List.length_nil]; omega)) (w.heap.size + 1) (Bx.at (w.alloc (.cells #[.int .i64 (f : Int), .int .i64 (t : Int), .int .i64 (a : Int), .int .i64 (y : Int), .string s, .iface tx (.agg xx)] 228)) #[.string kFun, .string s, .string kArrow] 9 (w.heap.size + 1) (by simp)) (by omega) (Or.inr ((Bx.at (w.alloc (.cells #[.int .i64 (f : Int), .int .i64 (t : Int), .int .i64 (a : Int), .int .i64 (y : Int), .string s, .iface tx (.agg xx)] 228)) #[.string kFun, .string s, .string kArrow] 9 (w.heap.size + 1) (by simp)).nby (by intro x hx c; simp at hx; subst hx; intro q; cases q)))
  rw [eT1] at HP1
  go_wp2_with fail
  refine HP1.mono ?_
  rintro e w1 ⟨rfl, bvw1, hN, hF⟩
  have N2 : Hid (PN w1 B pb bvw1 (((l ++ (sep last ++ [102, 117, 110])) ++ ([32] ++ s.toList)) ++ ([32] ++ [45, 62])) kArrow mv) := hide hN
  have F3 := hide ((unhide F0).trans ((FN.of hb1).trans hF))
  have zw1 := (unhide F3).size
  rw [zW] at zw1
  clear hN hF HP1 hb1 eT1 N0 F0
  obtain ⟨c4, fc4, zc4⟩ := (unhide F3).pn_ne (unhide BXb) (by omega) (by intro x hx c; simp at hx; subst hx; intro q; cases q)
  have HS5 := Hx w1 B pb _ _ kArrow mv Q _ 0 (unhide N2) ((unhide Vx).fnQ (unhide HQ) (unhide F3)) ((unhide HQ).fn (unhide F3)) ((unhide HM).fn (unhide F3)) (by omega) (by rw [sepTok (toList_mk [45, 62]) (by decide) (by decide)]; rw [atW_0]; simp only [List.length_append, List.length_cons, List.length_nil]; omega) hB
  rw [sepTok (toList_mk [45, 62]) (by decide) (by decide)] at HS5
  rw [atW_0] at HS5
  go_wp2_with fail
  clear c4 fc4 zc4
  refine HS5.mono ?_
  rintro e w2 ⟨rfl, bvw2, lastw2, hN, fiw2, hF⟩
  have N6 := hide hN
  have F7 := hide ((unhide F3).trans hF)
  have zw2 := (unhide F7).size
  rw [zW] at zw2
  clear hN hF HS5 N2 F3
  go_wp2_with fail
  go_end0
  refine ⟨rfl, bvw2, lastw2, ?_, fiw2, FW.trans (unhide F7)⟩
  show PN w2 B pb bvw2 (l ++ (sep last ++ ([102, 117, 110, 32] ++ (s.toList ++ ([32, 45, 62, 32] ++ sh x))))) lastw2 mv
  rw [show l ++ (sep last ++ ([102, 117, 110, 32] ++ (s.toList ++ ([32, 45, 62, 32] ++ sh x)))) = ((((l ++ (sep last ++ [102, 117, 110])) ++ ([32] ++ s.toList)) ++ ([32] ++ [45, 62])) ++ ([32] ++ sh x)) by simp]
  exact unhide N6
set_option maxRecDepth 100000 in
set_option maxHeartbeats 2000000 in
theorem bareE_call (s : ByteArray) (n : Nat) (x y : Nd) (f t a : Nat) (Hx : AtEC x) (Hy : AtEC y) : BareEC (.mk 8 s n [x, y] f t a) := by
  intro w B pb bv l last mv Q v h hp hq hm hl hB
  cases hp with
  | lt => rename_i hc _ _ _ _; exfalso; omega
  | call s n x y f t a vx vy hx hy =>
  have hx0 := hx
  obtain ⟨tx, xx, rfl⟩ := hx.iface
  have hy0 := hy
  obtain ⟨ty, xy, rfl⟩ := hy.iface
  have esh := sh_call s n x y f t a
  rw [esh] at hl ⊢
  simp only [List.length_append, List.length_cons, List.length_nil] at hl
  have ha0 := taExpr_Call_Fun
  have ha1 := taExpr_Call_Let
  have ha2 := taExpr_Call_If
  have ha3 := taExpr_Call_Match
  have ha4 := taExpr_Call_Call
  have hbW : Below w.heap.size w (w.alloc (.cells #[.int .i64 (f : Int), .int .i64 (t : Int), .iface tx (.agg xx), .iface ty (.agg xy)] 257)) := ((Below.refl _ _).alloc (Nat.le_refl _) (.cells #[.int .i64 (f : Int), .int .i64 (t : Int), .iface tx (.agg xx), .iface ty (.agg xy)] 257))
  have zW : (w.alloc (.cells #[.int .i64 (f : Int), .int .i64 (t : Int), .iface tx (.agg xx), .iface ty (.agg xy)] 257)).heap.size = w.heap.size + 1 := by simp
  have FW := FN.of (B := B) (pb := pb) hbW
  have hzp := h.lt
  have N0 := hide (h.bel hbW)
  have F0 := hide (FN.refl B pb (w.alloc (.cells #[.int .i64 (f : Int), .int .i64 (t : Int), .iface tx (.agg xx), .iface ty (.agg xy)] 257)))
  have BXb := hide (Bx.at w #[.int .i64 (f : Int), .int .i64 (t : Int), .iface tx (.agg xx), .iface ty (.agg xy)] 257 (w.heap.size) (by simp))
  have Vx := hide (hx0.bel hbW)
  have Vy := hide (hy0.bel hbW)
  have HM := hide (hm.fn FW)
  clear hm
  have HQ := hide (hq.fn FW)
  clear h hq
  go_enter Tryz.func136, Tryz.ntmps136
  obtain ⟨c1, fc1, zc1⟩ := (unhide F0).pn_ne (unhide BXb) (by omega) (by intro x hx c; simp at hx; subst hx; intro q; cases q)
  have HS2 := Hx (w.alloc (.cells #[.int .i64 (f : Int), .int .i64 (t : Int), .iface tx (.agg xx), .iface ty (.agg xy)] 257)) B pb _ _ last mv Q _ 3 (unhide N0) ((unhide Vx).fnQ (unhide HQ) (unhide F0)) ((unhide HQ).fn (unhide F0)) ((unhide HM).fn (unhide F0)) (by omega) (by simp only [List.length_append, List.length_cons, List.length_nil]; omega) hB
  go_wp2_with fail
  clear c1 fc1 zc1
  refine HS2.mono ?_
  rintro e w1 ⟨rfl, bvw1, lastw1, hN, fiw1, hF⟩
  have N3 := hide hN
  have F4 := hide ((unhide F0).trans hF)
  have zw1 := (unhide F4).size
  rw [zW] at zw1
  clear hN hF HS2 N0 F0
  obtain ⟨c5, fc5, zc5⟩ := (unhide F4).pn_ne (unhide BXb) (by omega) (by intro x hx c; simp at hx; subst hx; intro q; cases q)
  have HS6 := Hy w1 B pb _ _ lastw1 mv Q _ 4 (unhide N3) ((unhide Vy).fnQ (unhide HQ) (unhide F4)) ((unhide HQ).fn (unhide F4)) ((unhide HM).fn (unhide F4)) (by omega) (by rw [sep_fine fiw1]; simp only [List.length_append, List.length_cons, List.length_nil]; omega) hB
  rw [sep_fine fiw1] at HS6
  go_wp2_with fail
  clear c5 fc5 zc5
  refine HS6.mono ?_
  rintro e w2 ⟨rfl, bvw2, lastw2, hN, fiw2, hF⟩
  have N7 := hide hN
  have F8 := hide ((unhide F4).trans hF)
  have zw2 := (unhide F8).size
  rw [zW] at zw2
  clear hN hF HS6 N3 F4
  go_wp2_with fail
  go_end0
  refine ⟨rfl, bvw2, lastw2, ?_, fiw2, FW.trans (unhide F8)⟩
  show PN w2 B pb bvw2 (l ++ (sep last ++ (atW x 3 ++ (32 :: atW y 4)))) lastw2 mv
  rw [show l ++ (sep last ++ (atW x 3 ++ (32 :: atW y 4))) = ((l ++ (sep last ++ atW x 3)) ++ ([32] ++ atW y 4)) by simp]
  exact unhide N7
set_option maxRecDepth 100000 in
set_option maxHeartbeats 2000000 in
theorem bareE_ite (s : ByteArray) (n : Nat) (x y z : Nd) (f t a : Nat) (Hx : AtEC x) (Hy : AtEC y) (Hz : AtEC z) : BareEC (.mk 12 s n [x, y, z] f t a) := by
  intro w B pb bv l last mv Q v h hp hq hm hl hB
  cases hp with
  | ite s n x y z f t a vx vy vz hx hy hz =>
  have hx0 := hx
  obtain ⟨tx, xx, rfl⟩ := hx.iface
  have hy0 := hy
  obtain ⟨ty, xy, rfl⟩ := hy.iface
  have hz0 := hz
  obtain ⟨tz, xz, rfl⟩ := hz.iface
  have esh := sh_if s n x y z f t a
  rw [esh] at hl ⊢
  simp only [List.length_append, List.length_cons, List.length_nil] at hl
  have ha0 := taExpr_If_Fun
  have ha1 := taExpr_If_Let
  have ha2 := taExpr_If_If
  have hbW : Below w.heap.size w (w.alloc (.cells #[.int .i64 (f : Int), .int .i64 (t : Int), .iface tx (.agg xx), .iface ty (.agg xy), .iface tz (.agg xz)] 232)) := ((Below.refl _ _).alloc (Nat.le_refl _) (.cells #[.int .i64 (f : Int), .int .i64 (t : Int), .iface tx (.agg xx), .iface ty (.agg xy), .iface tz (.agg xz)] 232))
  have zW : (w.alloc (.cells #[.int .i64 (f : Int), .int .i64 (t : Int), .iface tx (.agg xx), .iface ty (.agg xy), .iface tz (.agg xz)] 232)).heap.size = w.heap.size + 1 := by simp
  have FW := FN.of (B := B) (pb := pb) hbW
  have hzp := h.lt
  have N0 := hide (h.bel hbW)
  have F0 := hide (FN.refl B pb (w.alloc (.cells #[.int .i64 (f : Int), .int .i64 (t : Int), .iface tx (.agg xx), .iface ty (.agg xy), .iface tz (.agg xz)] 232)))
  have BXb := hide (Bx.at w #[.int .i64 (f : Int), .int .i64 (t : Int), .iface tx (.agg xx), .iface ty (.agg xy), .iface tz (.agg xz)] 232 (w.heap.size) (by simp))
  have Vx := hide (hx0.bel hbW)
  have Vy := hide (hy0.bel hbW)
  have Vz := hide (hz0.bel hbW)
  have HM := hide (hm.fn FW)
  clear hm
  have HQ := hide (hq.fn FW)
  clear h hq
  go_enter Tryz.func136, Tryz.ntmps136
  have zp1 := (unhide N0).lt
  rw [zW] at zp1
  have hb1 : Below (w.alloc (.cells #[.int .i64 (f : Int), .int .i64 (t : Int), .iface tx (.agg xx), .iface ty (.agg xy), .iface tz (.agg xz)] 232)).heap.size (w.alloc (.cells #[.int .i64 (f : Int), .int .i64 (t : Int), .iface tx (.agg xx), .iface ty (.agg xy), .iface tz (.agg xz)] 232)) ((w.alloc (.cells #[.int .i64 (f : Int), .int .i64 (t : Int), .iface tx (.agg xx), .iface ty (.agg xy), .iface tz (.agg xz)] 232)).alloc (.cells #[.string kIf] 9)) := (Below.refl _ _).alloc (Nat.le_refl _) _
  have eT1 : putsL l last [kIf] = (l ++ (sep last ++ [105, 102])) := by
    show (putL' l last kIf) = _
    rw [putLoose (toList_mk [105, 102]) (by decide) (by decide) (by decide)]
  have HP1 := puts_C ((unhide N0).bel hb1) [kIf] (by intro t ht; simp only [List.mem_cons, List.not_mem_nil, or_false] at ht; rcases ht with rfl <;> first | decide | assumption) (by simp) (by first | omega | (simp only [List.length_append, List.length_cons, List.length_nil]; omega)) (w.heap.size + 1) (Bx.at (w.alloc (.cells #[.int .i64 (f : Int), .int .i64 (t : Int), .iface tx (.agg xx), .iface ty (.agg xy), .iface tz (.agg xz)] 232)) #[.string kIf] 9 (w.heap.size + 1) (by simp)) (by omega) (Or.inr ((Bx.at (w.alloc (.cells #[.int .i64 (f : Int), .int .i64 (t : Int), .iface tx (.agg xx), .iface ty (.agg xy), .iface tz (.agg xz)] 232)) #[.string kIf] 9 (w.heap.size + 1) (by simp)).nby (by intro x hx c; simp at hx; subst hx; intro q; cases q)))
  rw [eT1] at HP1
  go_wp2_with fail
  refine HP1.mono ?_
  rintro e w1 ⟨rfl, bvw1, hN, hF⟩
  have N2 : Hid (PN w1 B pb bvw1 (l ++ (sep last ++ [105, 102])) kIf mv) := hide hN
  have F3 := hide ((unhide F0).trans ((FN.of hb1).trans hF))
  have zw1 := (unhide F3).size
  rw [zW] at zw1
  clear hN hF HP1 hb1 eT1 N0 F0
  obtain ⟨c4, fc4, zc4⟩ := (unhide F3).pn_ne (unhide BXb) (by omega) (by intro x hx c; simp at hx; subst hx; intro q; cases q)
  have HS5 := Hx w1 B pb _ _ kIf mv Q _ 0 (unhide N2) ((unhide Vx).fnQ (unhide HQ) (unhide F3)) ((unhide HQ).fn (unhide F3)) ((unhide HM).fn (unhide F3)) (by omega) (by rw [sepTok (toList_mk [105, 102]) (by decide) (by decide)]; rw [atW_0]; simp only [List.length_append, List.length_cons, List.length_nil]; omega) hB
  rw [sepTok (toList_mk [105, 102]) (by decide) (by decide)] at HS5
  rw [atW_0] at HS5
  go_wp2_with fail
  clear c4 fc4 zc4
  refine HS5.mono ?_
  rintro e w2 ⟨rfl, bvw2, lastw2, hN, fiw2, hF⟩
  have N6 := hide hN
  have F7 := hide ((unhide F3).trans hF)
  have zw2 := (unhide F7).size
  rw [zW] at zw2
  clear hN hF HS5 N2 F3
  have zp8 := (unhide N6).lt
  have hb8 : Below w2.heap.size w2 (w2.alloc (.cells #[.string kThen] 9)) := (Below.refl _ _).alloc (Nat.le_refl _) _
  have eT8 : putsL ((l ++ (sep last ++ [105, 102])) ++ ([32] ++ sh x)) lastw2 [kThen] = (((l ++ (sep last ++ [105, 102])) ++ ([32] ++ sh x)) ++ ([32] ++ [116, 104, 101, 110])) := by
    show (putL' ((l ++ (sep last ++ [105, 102])) ++ ([32] ++ sh x)) lastw2 kThen) = _
    rw [putLoose (toList_mk [116, 104, 101, 110]) (by decide) (by decide) (by decide), sep_fine fiw2]
  have HP8 := puts_C ((unhide N6).bel hb8) [kThen] (by intro t ht; simp only [List.mem_cons, List.not_mem_nil, or_false] at ht; rcases ht with rfl <;> first | decide | assumption) (by simp) (by first | omega | (simp only [List.length_append, List.length_cons, List.length_nil]; omega)) (w2.heap.size) (Bx.at w2 #[.string kThen] 9 (w2.heap.size) (by simp)) (by omega) (Or.inr ((Bx.at w2 #[.string kThen] 9 (w2.heap.size) (by simp)).nby (by intro x hx c; simp at hx; subst hx; intro q; cases q)))
  rw [eT8] at HP8
  go_wp2_with fail
  refine HP8.mono ?_
  rintro e w3 ⟨rfl, bvw3, hN, hF⟩
  have N9 : Hid (PN w3 B pb bvw3 (((l ++ (sep last ++ [105, 102])) ++ ([32] ++ sh x)) ++ ([32] ++ [116, 104, 101, 110])) kThen mv) := hide hN
  have F10 := hide ((unhide F7).trans ((FN.of hb8).trans hF))
  have zw3 := (unhide F10).size
  rw [zW] at zw3
  clear hN hF HP8 hb8 eT8 N6 F7
  obtain ⟨c11, fc11, zc11⟩ := (unhide F10).pn_ne (unhide BXb) (by omega) (by intro x hx c; simp at hx; subst hx; intro q; cases q)
  have HS12 := Hy w3 B pb _ _ kThen mv Q _ 0 (unhide N9) ((unhide Vy).fnQ (unhide HQ) (unhide F10)) ((unhide HQ).fn (unhide F10)) ((unhide HM).fn (unhide F10)) (by omega) (by rw [sepTok (toList_mk [116, 104, 101, 110]) (by decide) (by decide)]; rw [atW_0]; simp only [List.length_append, List.length_cons, List.length_nil]; omega) hB
  rw [sepTok (toList_mk [116, 104, 101, 110]) (by decide) (by decide)] at HS12
  rw [atW_0] at HS12
  go_wp2_with fail
  clear c11 fc11 zc11
  refine HS12.mono ?_
  rintro e w4 ⟨rfl, bvw4, lastw4, hN, fiw4, hF⟩
  have N13 := hide hN
  have F14 := hide ((unhide F10).trans hF)
  have zw4 := (unhide F14).size
  rw [zW] at zw4
  clear hN hF HS12 N9 F10
  have zp15 := (unhide N13).lt
  have hb15 : Below w4.heap.size w4 (w4.alloc (.cells #[.string kElse] 9)) := (Below.refl _ _).alloc (Nat.le_refl _) _
  have eT15 : putsL ((((l ++ (sep last ++ [105, 102])) ++ ([32] ++ sh x)) ++ ([32] ++ [116, 104, 101, 110])) ++ ([32] ++ sh y)) lastw4 [kElse] = (((((l ++ (sep last ++ [105, 102])) ++ ([32] ++ sh x)) ++ ([32] ++ [116, 104, 101, 110])) ++ ([32] ++ sh y)) ++ ([32] ++ [101, 108, 115, 101])) := by
    show (putL' ((((l ++ (sep last ++ [105, 102])) ++ ([32] ++ sh x)) ++ ([32] ++ [116, 104, 101, 110])) ++ ([32] ++ sh y)) lastw4 kElse) = _
    rw [putLoose (toList_mk [101, 108, 115, 101]) (by decide) (by decide) (by decide), sep_fine fiw4]
  have HP15 := puts_C ((unhide N13).bel hb15) [kElse] (by intro t ht; simp only [List.mem_cons, List.not_mem_nil, or_false] at ht; rcases ht with rfl <;> first | decide | assumption) (by simp) (by first | omega | (simp only [List.length_append, List.length_cons, List.length_nil]; omega)) (w4.heap.size) (Bx.at w4 #[.string kElse] 9 (w4.heap.size) (by simp)) (by omega) (Or.inr ((Bx.at w4 #[.string kElse] 9 (w4.heap.size) (by simp)).nby (by intro x hx c; simp at hx; subst hx; intro q; cases q)))
  rw [eT15] at HP15
  go_wp2_with fail
  refine HP15.mono ?_
  rintro e w5 ⟨rfl, bvw5, hN, hF⟩
  have N16 : Hid (PN w5 B pb bvw5 (((((l ++ (sep last ++ [105, 102])) ++ ([32] ++ sh x)) ++ ([32] ++ [116, 104, 101, 110])) ++ ([32] ++ sh y)) ++ ([32] ++ [101, 108, 115, 101])) kElse mv) := hide hN
  have F17 := hide ((unhide F14).trans ((FN.of hb15).trans hF))
  have zw5 := (unhide F17).size
  rw [zW] at zw5
  clear hN hF HP15 hb15 eT15 N13 F14
  obtain ⟨c18, fc18, zc18⟩ := (unhide F17).pn_ne (unhide BXb) (by omega) (by intro x hx c; simp at hx; subst hx; intro q; cases q)
  have HS19 := Hz w5 B pb _ _ kElse mv Q _ 0 (unhide N16) ((unhide Vz).fnQ (unhide HQ) (unhide F17)) ((unhide HQ).fn (unhide F17)) ((unhide HM).fn (unhide F17)) (by omega) (by rw [sepTok (toList_mk [101, 108, 115, 101]) (by decide) (by decide)]; rw [atW_0]; simp only [List.length_append, List.length_cons, List.length_nil]; omega) hB
  rw [sepTok (toList_mk [101, 108, 115, 101]) (by decide) (by decide)] at HS19
  rw [atW_0] at HS19
  go_wp2_with fail
  clear c18 fc18 zc18
  refine HS19.mono ?_
  rintro e w6 ⟨rfl, bvw6, lastw6, hN, fiw6, hF⟩
  have N20 := hide hN
  have F21 := hide ((unhide F17).trans hF)
  have zw6 := (unhide F21).size
  rw [zW] at zw6
  clear hN hF HS19 N16 F17
  go_wp2_with fail
  go_end0
  refine ⟨rfl, bvw6, lastw6, ?_, fiw6, FW.trans (unhide F21)⟩
  show PN w6 B pb bvw6 (l ++ (sep last ++ ([105, 102, 32] ++ (sh x ++ ([32, 116, 104, 101, 110, 32] ++ (sh y ++ ([32, 101, 108, 115, 101, 32] ++ sh z))))))) lastw6 mv
  rw [show l ++ (sep last ++ ([105, 102, 32] ++ (sh x ++ ([32, 116, 104, 101, 110, 32] ++ (sh y ++ ([32, 101, 108, 115, 101, 32] ++ sh z)))))) = ((((((l ++ (sep last ++ [105, 102])) ++ ([32] ++ sh x)) ++ ([32] ++ [116, 104, 101, 110])) ++ ([32] ++ sh y)) ++ ([32] ++ [101, 108, 115, 101])) ++ ([32] ++ sh z)) by simp]
  exact unhide N20
set_option maxRecDepth 100000 in
set_option maxHeartbeats 2000000 in
theorem bindingW_C (r : Bool) (s : ByteArray) (hs : LowN s) (hss : s.size ≤ 1000) (x : Nd) (Hx : AtEC x) {B pb : Nat} {bv : Value} {l : List UInt8} {last : ByteArray} {mv : Value} {Q : Nat → Prop} (a y : Int) {tx : TypeId} {xx : Array Value} (h : PN w B pb bv l last mv) (hx0 : PE w Q x (.iface tx (.agg xx))) (hq : NT w pb Q) (hm : PM w pb mv) (hl : (l ++ (sep last ++ letS r s.toList (sh x))).length ≤ 800000) (hB : B ≤ pb) :
    Calls Tryz.prog 50 #[.pointer (some ⟨pb, 0, none⟩), .agg #[.bool r, .int .i64 a, .int .i64 y, .string s, .iface tx (.agg xx)]] w (AtPost B pb mv (l ++ (sep last ++ letS r s.toList (sh x))) w) := by
  obtain ⟨n1, n2, n3⟩ := low_ne hs
  have hfi := fine_low hs
  unfold letS at hl ⊢
  simp only [List.length_append, List.length_cons, List.length_nil] at hl
  cases r with
  | false =>
    simp only [Bool.false_eq_true, if_false, List.length_nil] at hl
    simp only [Bool.false_eq_true, if_false, List.nil_append]
    have hbW : Below w.heap.size w (w.alloc (.cells #[.bool false, .int .i64 a, .int .i64 y, .string s, .iface tx (.agg xx)] 129)) := ((Below.refl _ _).alloc (Nat.le_refl _) (.cells #[.bool false, .int .i64 a, .int .i64 y, .string s, .iface tx (.agg xx)] 129))
    have zW : (w.alloc (.cells #[.bool false, .int .i64 a, .int .i64 y, .string s, .iface tx (.agg xx)] 129)).heap.size = w.heap.size + 1 := by simp
    have FW := FN.of (B := B) (pb := pb) hbW
    have hzp := h.lt
    have N0 := hide (h.bel hbW)
    have F0 := hide (FN.refl B pb (w.alloc (.cells #[.bool false, .int .i64 a, .int .i64 y, .string s, .iface tx (.agg xx)] 129)))
    have BXb := hide (Bx.at w #[.bool false, .int .i64 a, .int .i64 y, .string s, .iface tx (.agg xx)] 129 (w.heap.size) (by simp))
    have Vx := hide (hx0.bel hbW)
    have HM := hide (hm.fn FW)
    clear hm
    have HQ := hide (hq.fn FW)
    clear h hq
    go_enter Tryz.func50, Tryz.ntmps50
    have zp1 := (unhide N0).lt
    rw [zW] at zp1
    have hb1 : Below (w.alloc (.cells #[.bool false, .int .i64 a, .int .i64 y, .string s, .iface tx (.agg xx)] 129)).heap.size (w.alloc (.cells #[.bool false, .int .i64 a, .int .i64 y, .string s, .iface tx (.agg xx)] 129)) ((w.alloc (.cells #[.bool false, .int .i64 a, .int .i64 y, .string s, .iface tx (.agg xx)] 129)).alloc (.cells #[.string kLet] 9)) := (Below.refl _ _).alloc (Nat.le_refl _) _
    have eT1 : putsL l last [kLet] = (l ++ (sep last ++ [108, 101, 116])) := by
      show (putL' l last kLet) = _
      rw [putLoose (toList_mk [108, 101, 116]) (by decide) (by decide) (by decide)]
    have HP1 := puts_C ((unhide N0).bel hb1) [kLet] (by intro t ht; simp only [List.mem_cons, List.not_mem_nil, or_false] at ht; rcases ht with rfl <;> first | decide | assumption) (by simp) (by first | omega | (simp only [List.length_append, List.length_cons, List.length_nil]; omega)) (w.heap.size + 1) (Bx.at (w.alloc (.cells #[.bool false, .int .i64 a, .int .i64 y, .string s, .iface tx (.agg xx)] 129)) #[.string kLet] 9 (w.heap.size + 1) (by simp)) (by omega) (Or.inr ((Bx.at (w.alloc (.cells #[.bool false, .int .i64 a, .int .i64 y, .string s, .iface tx (.agg xx)] 129)) #[.string kLet] 9 (w.heap.size + 1) (by simp)).nby (by intro x hx c; simp at hx; subst hx; intro q; cases q)))
    rw [eT1] at HP1
    go_wp2_with fail
    refine HP1.mono ?_
    rintro e w1 ⟨rfl, bvw1, hN, hF⟩
    have N2 : Hid (PN w1 B pb bvw1 (l ++ (sep last ++ [108, 101, 116])) kLet mv) := hide hN
    have F3 := hide ((unhide F0).trans ((FN.of hb1).trans hF))
    have zw1 := (unhide F3).size
    rw [zW] at zw1
    clear hN hF HP1 hb1 eT1 N0 F0
    obtain ⟨c4, fc4, zc4⟩ := (unhide F3).pn_ne (unhide BXb) (by omega) (by intro x hx c; simp at hx; subst hx; intro q; cases q)
    have zp5 := (unhide N2).lt
    have hb5 : Below w1.heap.size w1 (w1.alloc (.cells #[.string s, .string kEq] 9)) := (Below.refl _ _).alloc (Nat.le_refl _) _
    have eT5 : putsL (l ++ (sep last ++ [108, 101, 116])) kLet [s, kEq] = (((l ++ (sep last ++ [108, 101, 116])) ++ ([32] ++ s.toList)) ++ ([32] ++ [61])) := by
      show (putL' (putL' (l ++ (sep last ++ [108, 101, 116])) kLet s) s kEq) = _
      rw [putLoose rfl n1 n2 n3, sepTok (toList_mk [108, 101, 116]) (by decide) (by decide), putLoose (toList_mk [61]) (by decide) (by decide) (by decide), sep_fine hfi]
    have HP5 := puts_C ((unhide N2).bel hb5) [s, kEq] (by intro t ht; simp only [List.mem_cons, List.not_mem_nil, or_false] at ht; rcases ht with rfl | rfl <;> first | decide | assumption) (by simp) (by first | omega | (simp only [List.length_append, List.length_cons, List.length_nil]; omega)) (w1.heap.size) (Bx.at w1 #[.string s, .string kEq] 9 (w1.heap.size) (by simp)) (by omega) (Or.inr ((Bx.at w1 #[.string s, .string kEq] 9 (w1.heap.size) (by simp)).nby (by intro x hx c; simp at hx; subst hx; intro q; cases q)))
    rw [eT5] at HP5
    go_wp2_with fail
    clear c4 fc4 zc4
    refine HP5.mono ?_
    rintro e w3 ⟨rfl, bvw3, hN, hF⟩
    have N6 : Hid (PN w3 B pb bvw3 (((l ++ (sep last ++ [108, 101, 116])) ++ ([32] ++ s.toList)) ++ ([32] ++ [61])) kEq mv) := hide hN
    have F7 := hide ((unhide F3).trans ((FN.of hb5).trans hF))
    have zw3 := (unhide F7).size
    rw [zW] at zw3
    clear hN hF HP5 hb5 eT5 N2 F3
    obtain ⟨c8, fc8, zc8⟩ := (unhide F7).pn_ne (unhide BXb) (by omega) (by intro x hx c; simp at hx; subst hx; intro q; cases q)
    have HS9 := Hx w3 B pb _ _ kEq mv Q _ 0 (unhide N6) ((unhide Vx).fnQ (unhide HQ) (unhide F7)) ((unhide HQ).fn (unhide F7)) ((unhide HM).fn (unhide F7)) (by omega) (by rw [sepTok (toList_mk [61]) (by decide) (by decide)]; rw [atW_0]; simp only [List.length_append, List.length_cons, List.length_nil]; omega) hB
    rw [sepTok (toList_mk [61]) (by decide) (by decide)] at HS9
    rw [atW_0] at HS9
    go_wp2_with fail
    clear c8 fc8 zc8
    refine HS9.mono ?_
    rintro e w4 ⟨rfl, bvw4, lastw4, hN, fiw4, hF⟩
    have N10 := hide hN
    have F11 := hide ((unhide F7).trans hF)
    have zw4 := (unhide F11).size
    rw [zW] at zw4
    clear hN hF HS9 N6 F7
    go_wp2_with fail
    go_end0
    refine ⟨rfl, bvw4, lastw4, ?_, fiw4, FW.trans (unhide F11)⟩
    show PN w4 B pb bvw4 (l ++ (sep last ++ ([108, 101, 116, 32] ++ (s.toList ++ ([32, 61, 32] ++ sh x))))) lastw4 mv
    rw [show l ++ (sep last ++ ([108, 101, 116, 32] ++ (s.toList ++ ([32, 61, 32] ++ sh x)))) = ((((l ++ (sep last ++ [108, 101, 116])) ++ ([32] ++ s.toList)) ++ ([32] ++ [61])) ++ ([32] ++ sh x)) by simp]
    exact unhide N10
  | true =>
    simp only [if_true, List.length_cons, List.length_nil] at hl
    simp only [if_true]
    have hbW : Below w.heap.size w (w.alloc (.cells #[.bool true, .int .i64 a, .int .i64 y, .string s, .iface tx (.agg xx)] 129)) := ((Below.refl _ _).alloc (Nat.le_refl _) (.cells #[.bool true, .int .i64 a, .int .i64 y, .string s, .iface tx (.agg xx)] 129))
    have zW : (w.alloc (.cells #[.bool true, .int .i64 a, .int .i64 y, .string s, .iface tx (.agg xx)] 129)).heap.size = w.heap.size + 1 := by simp
    have FW := FN.of (B := B) (pb := pb) hbW
    have hzp := h.lt
    have N0 := hide (h.bel hbW)
    have F0 := hide (FN.refl B pb (w.alloc (.cells #[.bool true, .int .i64 a, .int .i64 y, .string s, .iface tx (.agg xx)] 129)))
    have BXb := hide (Bx.at w #[.bool true, .int .i64 a, .int .i64 y, .string s, .iface tx (.agg xx)] 129 (w.heap.size) (by simp))
    have Vx := hide (hx0.bel hbW)
    have HM := hide (hm.fn FW)
    clear hm
    have HQ := hide (hq.fn FW)
    clear h hq
    go_enter Tryz.func50, Tryz.ntmps50
    have zp1 := (unhide N0).lt
    rw [zW] at zp1
    have hb1 : Below (w.alloc (.cells #[.bool true, .int .i64 a, .int .i64 y, .string s, .iface tx (.agg xx)] 129)).heap.size (w.alloc (.cells #[.bool true, .int .i64 a, .int .i64 y, .string s, .iface tx (.agg xx)] 129)) ((w.alloc (.cells #[.bool true, .int .i64 a, .int .i64 y, .string s, .iface tx (.agg xx)] 129)).alloc (.cells #[.string kLet] 9)) := (Below.refl _ _).alloc (Nat.le_refl _) _
    have eT1 : putsL l last [kLet] = (l ++ (sep last ++ [108, 101, 116])) := by
      show (putL' l last kLet) = _
      rw [putLoose (toList_mk [108, 101, 116]) (by decide) (by decide) (by decide)]
    have HP1 := puts_C ((unhide N0).bel hb1) [kLet] (by intro t ht; simp only [List.mem_cons, List.not_mem_nil, or_false] at ht; rcases ht with rfl <;> first | decide | assumption) (by simp) (by first | omega | (simp only [List.length_append, List.length_cons, List.length_nil]; omega)) (w.heap.size + 1) (Bx.at (w.alloc (.cells #[.bool true, .int .i64 a, .int .i64 y, .string s, .iface tx (.agg xx)] 129)) #[.string kLet] 9 (w.heap.size + 1) (by simp)) (by omega) (Or.inr ((Bx.at (w.alloc (.cells #[.bool true, .int .i64 a, .int .i64 y, .string s, .iface tx (.agg xx)] 129)) #[.string kLet] 9 (w.heap.size + 1) (by simp)).nby (by intro x hx c; simp at hx; subst hx; intro q; cases q)))
    rw [eT1] at HP1
    go_wp2_with fail
    refine HP1.mono ?_
    rintro e w1 ⟨rfl, bvw1, hN, hF⟩
    have N2 : Hid (PN w1 B pb bvw1 (l ++ (sep last ++ [108, 101, 116])) kLet mv) := hide hN
    have F3 := hide ((unhide F0).trans ((FN.of hb1).trans hF))
    have zw1 := (unhide F3).size
    rw [zW] at zw1
    clear hN hF HP1 hb1 eT1 N0 F0
    obtain ⟨c4, fc4, zc4⟩ := (unhide F3).pn_ne (unhide BXb) (by omega) (by intro x hx c; simp at hx; subst hx; intro q; cases q)
    have zp5 := (unhide N2).lt
    have hb5 : Below w1.heap.size w1 (w1.alloc (.cells #[.string kRec] 9)) := (Below.refl _ _).alloc (Nat.le_refl _) _
    have eT5 : putsL (l ++ (sep last ++ [108, 101, 116])) kLet [kRec] = ((l ++ (sep last ++ [108, 101, 116])) ++ ([32] ++ [114, 101, 99])) := by
      show (putL' (l ++ (sep last ++ [108, 101, 116])) kLet kRec) = _
      rw [putLoose (toList_mk [114, 101, 99]) (by decide) (by decide) (by decide), sepTok (toList_mk [108, 101, 116]) (by decide) (by decide)]
    have HP5 := puts_C ((unhide N2).bel hb5) [kRec] (by intro t ht; simp only [List.mem_cons, List.not_mem_nil, or_false] at ht; rcases ht with rfl <;> first | decide | assumption) (by simp) (by first | omega | (simp only [List.length_append, List.length_cons, List.length_nil]; omega)) (w1.heap.size) (Bx.at w1 #[.string kRec] 9 (w1.heap.size) (by simp)) (by omega) (Or.inr ((Bx.at w1 #[.string kRec] 9 (w1.heap.size) (by simp)).nby (by intro x hx c; simp at hx; subst hx; intro q; cases q)))
    rw [eT5] at HP5
    go_wp2_with fail
    clear c4 fc4 zc4
    refine HP5.mono ?_
    rintro e w2 ⟨rfl, bvw2, hN, hF⟩
    have N6 : Hid (PN w2 B pb bvw2 ((l ++ (sep last ++ [108, 101, 116])) ++ ([32] ++ [114, 101, 99])) kRec mv) := hide hN
    have F7 := hide ((unhide F3).trans ((FN.of hb5).trans hF))
    have zw2 := (unhide F7).size
    rw [zW] at zw2
    clear hN hF HP5 hb5 eT5 N2 F3
    obtain ⟨c8, fc8, zc8⟩ := (unhide F7).pn_ne (unhide BXb) (by omega) (by intro x hx c; simp at hx; subst hx; intro q; cases q)
    have zp9 := (unhide N6).lt
    have hb9 : Below w2.heap.size w2 (w2.alloc (.cells #[.string s, .string kEq] 9)) := (Below.refl _ _).alloc (Nat.le_refl _) _
    have eT9 : putsL ((l ++ (sep last ++ [108, 101, 116])) ++ ([32] ++ [114, 101, 99])) kRec [s, kEq] = ((((l ++ (sep last ++ [108, 101, 116])) ++ ([32] ++ [114, 101, 99])) ++ ([32] ++ s.toList)) ++ ([32] ++ [61])) := by
      show (putL' (putL' ((l ++ (sep last ++ [108, 101, 116])) ++ ([32] ++ [114, 101, 99])) kRec s) s kEq) = _
      rw [putLoose rfl n1 n2 n3, sepTok (toList_mk [114, 101, 99]) (by decide) (by decide), putLoose (toList_mk [61]) (by decide) (by decide) (by decide), sep_fine hfi]
    have HP9 := puts_C ((unhide N6).bel hb9) [s, kEq] (by intro t ht; simp only [List.mem_cons, List.not_mem_nil, or_false] at ht; rcases ht with rfl | rfl <;> first | decide | assumption) (by simp) (by first | omega | (simp only [List.length_append, List.length_cons, List.length_nil]; omega)) (w2.heap.size) (Bx.at w2 #[.string s, .string kEq] 9 (w2.heap.size) (by simp)) (by omega) (Or.inr ((Bx.at w2 #[.string s, .string kEq] 9 (w2.heap.size) (by simp)).nby (by intro x hx c; simp at hx; subst hx; intro q; cases q)))
    rw [eT9] at HP9
    go_wp2_with fail
    clear c8 fc8 zc8
    refine HP9.mono ?_
    rintro e w3 ⟨rfl, bvw3, hN, hF⟩
    have N10 : Hid (PN w3 B pb bvw3 ((((l ++ (sep last ++ [108, 101, 116])) ++ ([32] ++ [114, 101, 99])) ++ ([32] ++ s.toList)) ++ ([32] ++ [61])) kEq mv) := hide hN
    have F11 := hide ((unhide F7).trans ((FN.of hb9).trans hF))
    have zw3 := (unhide F11).size
    rw [zW] at zw3
    clear hN hF HP9 hb9 eT9 N6 F7
    obtain ⟨c12, fc12, zc12⟩ := (unhide F11).pn_ne (unhide BXb) (by omega) (by intro x hx c; simp at hx; subst hx; intro q; cases q)
    have HS13 := Hx w3 B pb _ _ kEq mv Q _ 0 (unhide N10) ((unhide Vx).fnQ (unhide HQ) (unhide F11)) ((unhide HQ).fn (unhide F11)) ((unhide HM).fn (unhide F11)) (by omega) (by rw [sepTok (toList_mk [61]) (by decide) (by decide)]; rw [atW_0]; simp only [List.length_append, List.length_cons, List.length_nil]; omega) hB
    rw [sepTok (toList_mk [61]) (by decide) (by decide)] at HS13
    rw [atW_0] at HS13
    go_wp2_with fail
    clear c12 fc12 zc12
    refine HS13.mono ?_
    rintro e w4 ⟨rfl, bvw4, lastw4, hN, fiw4, hF⟩
    have N14 := hide hN
    have F15 := hide ((unhide F11).trans hF)
    have zw4 := (unhide F15).size
    rw [zW] at zw4
    clear hN hF HS13 N10 F11
    go_wp2_with fail
    go_end0
    refine ⟨rfl, bvw4, lastw4, ?_, fiw4, FW.trans (unhide F15)⟩
    show PN w4 B pb bvw4 (l ++ (sep last ++ ([108, 101, 116, 32] ++ ([114, 101, 99, 32] ++ (s.toList ++ ([32, 61, 32] ++ sh x)))))) lastw4 mv
    rw [show l ++ (sep last ++ ([108, 101, 116, 32] ++ ([114, 101, 99, 32] ++ (s.toList ++ ([32, 61, 32] ++ sh x))))) = (((((l ++ (sep last ++ [108, 101, 116])) ++ ([32] ++ [114, 101, 99])) ++ ([32] ++ s.toList)) ++ ([32] ++ [61])) ++ ([32] ++ sh x)) by simp]
    exact unhide N14
theorem PE.inv_lt {Q : Nat → Prop} {c : Nat} {s : ByteArray} {n : Nat} {x z : Nd} {f t a : Nat} {v : Value} (h : PE w Q (.mk c s n [x, z] f t a) v) (hc : c = 10 ∨ c = 11) : ∃ (y : Nat) (vx vz : Value), v = .iface 230 (.agg #[.int .i64 (f : Int), .int .i64 (t : Int), .bool (c == 11), .int .i64 (a : Int), .int .i64 (y : Int), .string s, vx, vz]) ∧ LowN s ∧ y = a + s.size ∧ PE w Q x vx ∧ PE w Q z vz := by
  rcases hc with rfl | rfl
  · cases h with
    | lt c s n x z f t a y vx vz hc hs hy hx hz => exact ⟨y, vx, vz, rfl, hs, hy, hx, hz⟩
  · cases h with
    | lt c s n x z f t a y vx vz hc hs hy hx hz => exact ⟨y, vx, vz, rfl, hs, hy, hx, hz⟩
set_option maxRecDepth 100000 in
set_option maxHeartbeats 2000000 in
theorem bareE_lt (c : Nat) (hc0 : c = 10 ∨ c = 11) (s : ByteArray) (n : Nat) (x z : Nd) (f t a : Nat) (hss : s.size ≤ 1000) (Hx : AtEC x) (Hz : AtEC z) : BareEC (.mk c s n [x, z] f t a) := by
  intro w B pb bv l last mv Q v h hp hq hm hl hB
  obtain ⟨y, vx, vz, rfl, hs, hy, hx, hz⟩ := hp.inv_lt hc0
  have hc := hc0
  have hx0 := hx
  obtain ⟨tx, xx, rfl⟩ := hx.iface
  have hz0 := hz
  obtain ⟨tz, xz, rfl⟩ := hz.iface
  have esh := sh_let c hc s n x z f t a
  rw [esh] at hl ⊢
  simp only [List.length_append, List.length_cons, List.length_nil] at hl
  have ha0 := taExpr_Let_Fun
  have ha1 := taExpr_Let_Let
  skip
  have hbW : Below w.heap.size w (w.alloc (.cells #[.int .i64 (f : Int), .int .i64 (t : Int), .bool (c == 11), .int .i64 (a : Int), .int .i64 (y : Int), .string s, .iface tx (.agg xx), .iface tz (.agg xz)] 230)) := ((Below.refl _ _).alloc (Nat.le_refl _) (.cells #[.int .i64 (f : Int), .int .i64 (t : Int), .bool (c == 11), .int .i64 (a : Int), .int .i64 (y : Int), .string s, .iface tx (.agg xx), .iface tz (.agg xz)] 230))
  have zW : (w.alloc (.cells #[.int .i64 (f : Int), .int .i64 (t : Int), .bool (c == 11), .int .i64 (a : Int), .int .i64 (y : Int), .string s, .iface tx (.agg xx), .iface tz (.agg xz)] 230)).heap.size = w.heap.size + 1 := by simp
  have FW := FN.of (B := B) (pb := pb) hbW
  have hzp := h.lt
  have N0 := hide (h.bel hbW)
  have F0 := hide (FN.refl B pb (w.alloc (.cells #[.int .i64 (f : Int), .int .i64 (t : Int), .bool (c == 11), .int .i64 (a : Int), .int .i64 (y : Int), .string s, .iface tx (.agg xx), .iface tz (.agg xz)] 230)))
  have BXb := hide (Bx.at w #[.int .i64 (f : Int), .int .i64 (t : Int), .bool (c == 11), .int .i64 (a : Int), .int .i64 (y : Int), .string s, .iface tx (.agg xx), .iface tz (.agg xz)] 230 (w.heap.size) (by simp))
  have Vx := hide (hx0.bel hbW)
  have Vz := hide (hz0.bel hbW)
  have HM := hide (hm.fn FW)
  clear hm
  clear hy
  have HQ := hide (hq.fn FW)
  clear h hq
  go_enter Tryz.func136, Tryz.ntmps136
  obtain ⟨c1, fc1, zc1⟩ := (unhide F0).pn_ne (unhide BXb) (by omega) (by intro x hx c; simp at hx; subst hx; intro q; cases q)
  have HS2 := bindingW_C (c == 11) s hs hss x Hx (a : Int) (y : Int) (unhide N0) ((unhide Vx).fnQ (unhide HQ) (unhide F0)) ((unhide HQ).fn (unhide F0)) ((unhide HM).fn (unhide F0)) (by simp only [List.length_append, List.length_cons, List.length_nil]; omega) hB
  go_wp2_with fail
  clear c1 fc1 zc1
  refine HS2.mono ?_
  rintro e w1 ⟨rfl, bvw1, lastw1, hN, fiw1, hF⟩
  have N3 := hide hN
  have F4 := hide ((unhide F0).trans hF)
  have zw1 := (unhide F4).size
  rw [zW] at zw1
  clear hN hF HS2 N0 F0
  have zp5 := (unhide N3).lt
  have hb5 : Below w1.heap.size w1 (w1.alloc (.cells #[.string kIn] 9)) := (Below.refl _ _).alloc (Nat.le_refl _) _
  have eT5 : putsL (l ++ (sep last ++ letS (c == 11) s.toList (sh x))) lastw1 [kIn] = ((l ++ (sep last ++ letS (c == 11) s.toList (sh x))) ++ ([32] ++ [105, 110])) := by
    show (putL' (l ++ (sep last ++ letS (c == 11) s.toList (sh x))) lastw1 kIn) = _
    rw [putLoose (toList_mk [105, 110]) (by decide) (by decide) (by decide), sep_fine fiw1]
  have HP5 := puts_C ((unhide N3).bel hb5) [kIn] (by intro t ht; simp only [List.mem_cons, List.not_mem_nil, or_false] at ht; rcases ht with rfl <;> first | decide | assumption) (by simp) (by first | omega | (simp only [List.length_append, List.length_cons, List.length_nil]; omega)) (w1.heap.size) (Bx.at w1 #[.string kIn] 9 (w1.heap.size) (by simp)) (by omega) (Or.inr ((Bx.at w1 #[.string kIn] 9 (w1.heap.size) (by simp)).nby (by intro x hx c; simp at hx; subst hx; intro q; cases q)))
  rw [eT5] at HP5
  go_wp2_with fail
  refine HP5.mono ?_
  rintro e w2 ⟨rfl, bvw2, hN, hF⟩
  have N6 : Hid (PN w2 B pb bvw2 ((l ++ (sep last ++ letS (c == 11) s.toList (sh x))) ++ ([32] ++ [105, 110])) kIn mv) := hide hN
  have F7 := hide ((unhide F4).trans ((FN.of hb5).trans hF))
  have zw2 := (unhide F7).size
  rw [zW] at zw2
  clear hN hF HP5 hb5 eT5 N3 F4
  obtain ⟨c8, fc8, zc8⟩ := (unhide F7).pn_ne (unhide BXb) (by omega) (by intro x hx c; simp at hx; subst hx; intro q; cases q)
  have HS9 := Hz w2 B pb _ _ kIn mv Q _ 0 (unhide N6) ((unhide Vz).fnQ (unhide HQ) (unhide F7)) ((unhide HQ).fn (unhide F7)) ((unhide HM).fn (unhide F7)) (by omega) (by rw [sepTok (toList_mk [105, 110]) (by decide) (by decide)]; rw [atW_0]; simp only [List.length_append, List.length_cons, List.length_nil]; omega) hB
  rw [sepTok (toList_mk [105, 110]) (by decide) (by decide)] at HS9
  rw [atW_0] at HS9
  go_wp2_with fail
  clear c8 fc8 zc8
  refine HS9.mono ?_
  rintro e w3 ⟨rfl, bvw3, lastw3, hN, fiw3, hF⟩
  have N10 := hide hN
  have F11 := hide ((unhide F7).trans hF)
  have zw3 := (unhide F11).size
  rw [zW] at zw3
  clear hN hF HS9 N6 F7
  go_wp2_with fail
  go_end0
  refine ⟨rfl, bvw3, lastw3, ?_, fiw3, FW.trans (unhide F11)⟩
  show PN w3 B pb bvw3 (l ++ (sep last ++ (letS (c == 11) s.toList (sh x) ++ ([32, 105, 110, 32] ++ sh z)))) lastw3 mv
  rw [show l ++ (sep last ++ (letS (c == 11) s.toList (sh x) ++ ([32, 105, 110, 32] ++ sh z))) = (((l ++ (sep last ++ letS (c == 11) s.toList (sh x))) ++ ([32] ++ [105, 110])) ++ ([32] ++ sh z)) by simp]
  exact unhide N10
end
end Go.Proofs.YteneoapickhpdaaGreatDoor
namespace Go.Proofs.YteneoapickhpdaaGreatDoor
open Go Go.RowKit Go.ChangeMaps Un
/-- The arms, as the pen puts them. -/
def armsW : Bool → List (Nd × Nd) → List UInt8
  | _, [] => []
  | b, p :: r => ([32] ++ (if b then [119, 105, 116, 104] else [124])) ++ (([32] ++ sh p.1) ++ (([32] ++ [45, 62]) ++ (([32] ++ sh p.2) ++ armsW false r)))
def armW (b : Bool) (p : Nd × Nd) : List UInt8 := ([32] ++ (if b then [119, 105, 116, 104] else [124])) ++ (([32] ++ sh p.1) ++ (([32] ++ [45, 62]) ++ ([32] ++ sh p.2)))
theorem armsW_take : ∀ (b : Bool) (A : List (Nd × Nd)) (j : Nat) (h : j < A.length), armsW b (A.take (j + 1)) = armsW b (A.take j) ++ armW (b && j == 0) A[j]
  | b, [], j, h => by simp at h
  | b, p :: r, 0, h => by simp [armsW, armW]
  | b, p :: r, j + 1, h => by
    have ih := armsW_take false r j (by simpa using h)
    simp only [List.take_succ_cons, armsW, ih, List.getElem_cons_succ]
    simp [armW]
theorem armsW_le (b : Bool) : ∀ (A : List (Nd × Nd)) (j : Nat), (armsW b (A.take j)).length ≤ (armsW b A).length := by
  intro A
  induction A generalizing b with
  | nil => intro j; simp [armsW]
  | cons p r ih =>
    intro j
    cases j with
    | zero => simp [armsW]
    | succ j => have := ih false j; simp only [List.take_succ_cons, armsW, List.length_append] at this ⊢; omega
theorem prL_arm : ∀ A : List (Nd × Nd), ∀ b, armsP b (prL (armN A)) = (match A with | [] => [] | p :: r => (if b then [] else [32, 124, 32]) ++ (sh p.1 ++ ([32, 45, 62, 32] ++ (sh p.2 ++ armsP false (prL (armN r))))))
  | [], b => by simp [armN, prL, armsP]
  | p :: r, b => by simp [armN, prL, armsP]
theorem armsP_W : ∀ A : List (Nd × Nd), armsP false (prL (armN A)) = armsW false A
  | [] => by simp [armN, prL, armsP, armsW]
  | p :: r => by rw [prL_arm]; simp [armsW, armsP_W r]
theorem sh_match (s : ByteArray) (n : Nat) (x : Nd) (A : List (Nd × Nd)) (h0 : A ≠ []) (f t a : Nat) : sh (.mk 13 s n (x :: armN A) f t a) = [109, 97, 116, 99, 104] ++ (([32] ++ sh x) ++ (armsW true A ++ ([32] ++ [101, 110, 100]))) := by
  cases A with
  | nil => exact absurd rfl h0
  | cons p r =>
    have e : sh (.mk 13 s n (x :: armN (p :: r)) f t a) = [109, 97, 116, 99, 104, 32] ++ (sh x ++ ([32, 119, 105, 116, 104, 32] ++ (armsP true (prL (armN (p :: r))) ++ [32, 101, 110, 100]))) := by simp [sh, joinE, prL, gP]
    rw [e, prL_arm]
    simp [armsW, armsP_W r]
def divT (b : Bool) : ByteArray := if b then kWith else kBar
theorem divT_list (b : Bool) : (divT b).toList = if b then [119, 105, 116, 104] else [124] := by cases b <;> exact toList_mk _
def MatchRel (B pb : Nat) (mv : Value) (l : List UInt8) (A : List (Nd × Nd)) (w : World) (gk : Nat) (v : Value) (wr : World) : Prop :=
  ∃ (j : Nat) (bv' : Value) (last' : ByteArray), Hid (gk = A.length - j) ∧ j ≤ A.length ∧ v = .int .i64 (j : Int) ∧ PN wr B pb bv' (l ++ armsW true (A.take j)) last' mv ∧ Fine last' ∧ FN B pb w wr
section
variable {w : World}
set_option maxRecDepth 100000 in
set_option maxHeartbeats 2000000 in
theorem divider_C (i : Nat) (s : ByteArray) : Calls Tryz.prog 81 #[.int .i64 (i : Int), .string s] w fun e w' => e = .returned (.string (if i = 0 then s else kBar)) ∧ w = w' := by
  by_cases h : i = 0
  · subst h
    go_enter Tryz.func81, Tryz.ntmps81
    go_wp2_with fail
    go_ret
    exact ⟨rfl, rfl⟩
  · have h1 : ((i : Int) == 0) = false := by simp; omega
    go_enter Tryz.func81, Tryz.ntmps81
    go_wp2_with fail
    go_ret
    exact ⟨by simp [h], rfl⟩
set_option maxRecDepth 100000 in
set_option maxHeartbeats 2000000 in
theorem matchW_C (x : Nd) (A : List (Nd × Nd)) (Hx : AtEC x) (HP : ∀ i (h : i < A.length), AtPC A[i].1) (HE : ∀ i (h : i < A.length), AtEC A[i].2) (hAl : A.length ≤ 1001) {B pb : Nat} {bv : Value} {l : List UInt8} {last : ByteArray} {mv : Value} {Q : Nat → Prop} (f t : Int) {tx : TypeId} {xx : Array Value} (g sc : Nat) (vp ve : Nat → Value) (h : PN w B pb bv l last mv) (hx0 : PE w Q x (.iface tx (.agg xx))) (hg : Q g) (hgz : g < w.heap.size)
    (hc : ∀ i, i < A.length → (∃ u v, w.cell? ⟨g, i * 4, none⟩ = some (.int .i64 u) ∧ w.cell? ⟨g, i * 4 + 1, none⟩ = some (.int .i64 v)) ∧ w.cell? ⟨g, i * 4 + 2, none⟩ = some (vp i) ∧ w.cell? ⟨g, i * 4 + 3, none⟩ = some (ve i)) (hp : ∀ i (h : i < A.length), PP w Q A[i].1 (vp i)) (he : ∀ i (h : i < A.length), PE w Q A[i].2 (ve i))
    (hq : NT w pb Q) (hm : PM w pb mv) (hl : (l ++ (sep last ++ ([109, 97, 116, 99, 104] ++ (([32] ++ sh x) ++ (armsW true A ++ ([32] ++ [101, 110, 100])))))).length ≤ 800000) (hB : B ≤ pb) :
    Calls Tryz.prog 157 #[.pointer (some ⟨pb, 0, none⟩), .agg #[.int .i64 f, .int .i64 t, .iface tx (.agg xx), .slice (some ⟨g, 0, none⟩) A.length sc]] w (AtPost B pb mv (l ++ (sep last ++ ([109, 97, 116, 99, 104] ++ (([32] ++ sh x) ++ (armsW true A ++ ([32] ++ [101, 110, 100])))))) w) := by
  simp only [List.length_append, List.length_cons, List.length_nil] at hl
  have Hq := hide hq
  have Hc := hide hc
  have Hp := hide hp
  have He := hide he
  have Hm := hide hm
  clear hc hp he
  have hbW : Below w.heap.size w (w.alloc (.cells #[.int .i64 f, .int .i64 t, .iface tx (.agg xx), .slice (some ⟨g, 0, none⟩) A.length sc] 239)) := ((Below.refl _ _).alloc (Nat.le_refl _) (.cells #[.int .i64 f, .int .i64 t, .iface tx (.agg xx), .slice (some ⟨g, 0, none⟩) A.length sc] 239))
  have zW : (w.alloc (.cells #[.int .i64 f, .int .i64 t, .iface tx (.agg xx), .slice (some ⟨g, 0, none⟩) A.length sc] 239)).heap.size = w.heap.size + 1 := by simp
  have FW := FN.of (B := B) (pb := pb) hbW
  have hzp := h.lt
  have N0 := hide (h.bel hbW)
  have F0 := hide (FN.refl B pb (w.alloc (.cells #[.int .i64 f, .int .i64 t, .iface tx (.agg xx), .slice (some ⟨g, 0, none⟩) A.length sc] 239)))
  have BXb := hide (Bx.at w #[.int .i64 f, .int .i64 t, .iface tx (.agg xx), .slice (some ⟨g, 0, none⟩) A.length sc] 239 (w.heap.size) (by simp))
  have Vx := hide (hx0.bel hbW)
  have HM := hide (hm.fn FW)
  clear hm
  have HQ := hide (hq.fn FW)
  clear h hq
  go_enter Tryz.func157, Tryz.ntmps157
  have zp1 := (unhide N0).lt
  rw [zW] at zp1
  have hb1 : Below (w.alloc (.cells #[.int .i64 f, .int .i64 t, .iface tx (.agg xx), .slice (some ⟨g, 0, none⟩) A.length sc] 239)).heap.size (w.alloc (.cells #[.int .i64 f, .int .i64 t, .iface tx (.agg xx), .slice (some ⟨g, 0, none⟩) A.length sc] 239)) ((w.alloc (.cells #[.int .i64 f, .int .i64 t, .iface tx (.agg xx), .slice (some ⟨g, 0, none⟩) A.length sc] 239)).alloc (.cells #[.string kMatch] 9)) := (Below.refl _ _).alloc (Nat.le_refl _) _
  have eT1 : putsL l last [kMatch] = (l ++ (sep last ++ [109, 97, 116, 99, 104])) := by
    show (putL' l last kMatch) = _
    rw [putLoose (toList_mk [109, 97, 116, 99, 104]) (by decide) (by decide) (by decide)]
  have HP1 := puts_C ((unhide N0).bel hb1) [kMatch] (by intro t ht; simp only [List.mem_cons, List.not_mem_nil, or_false] at ht; rcases ht with rfl <;> first | decide | assumption) (by simp) (by first | omega | (simp only [List.length_append, List.length_cons, List.length_nil]; omega)) (w.heap.size + 1) (Bx.at (w.alloc (.cells #[.int .i64 f, .int .i64 t, .iface tx (.agg xx), .slice (some ⟨g, 0, none⟩) A.length sc] 239)) #[.string kMatch] 9 (w.heap.size + 1) (by simp)) (by omega) (Or.inr ((Bx.at (w.alloc (.cells #[.int .i64 f, .int .i64 t, .iface tx (.agg xx), .slice (some ⟨g, 0, none⟩) A.length sc] 239)) #[.string kMatch] 9 (w.heap.size + 1) (by simp)).nby (by intro x hx c; simp at hx; subst hx; intro q; cases q)))
  rw [eT1] at HP1
  go_wp2_with fail
  refine HP1.mono ?_
  rintro e w1 ⟨rfl, bvw1, hN, hF⟩
  have N2 : Hid (PN w1 B pb bvw1 (l ++ (sep last ++ [109, 97, 116, 99, 104])) kMatch mv) := hide hN
  have F3 := hide ((unhide F0).trans ((FN.of hb1).trans hF))
  have zw1 := (unhide F3).size
  rw [zW] at zw1
  clear hN hF HP1 hb1 eT1 N0 F0
  obtain ⟨c4, fc4, zc4⟩ := (unhide F3).pn_ne (unhide BXb) (by omega) (by intro x hx c; simp at hx; subst hx; intro q; cases q)
  have HS5 := Hx w1 B pb _ _ kMatch mv Q _ 0 (unhide N2) ((unhide Vx).fnQ (unhide HQ) (unhide F3)) ((unhide HQ).fn (unhide F3)) ((unhide HM).fn (unhide F3)) (by omega) (by rw [sepTok (toList_mk [109, 97, 116, 99, 104]) (by decide) (by decide)]; rw [atW_0]; simp only [List.length_append, List.length_cons, List.length_nil]; omega) hB
  rw [sepTok (toList_mk [109, 97, 116, 99, 104]) (by decide) (by decide)] at HS5
  rw [atW_0] at HS5
  go_wp2_with fail
  clear c4 fc4 zc4
  refine HS5.mono ?_
  rintro e w2 ⟨rfl, bvw2, lastw2, hN, fiw2, hF⟩
  have N6 := hide hN
  have F7 := hide ((unhide F3).trans hF)
  have zw2 := (unhide F7).size
  rw [zW] at zw2
  clear hN hF HS5 N2 F3
  obtain ⟨c8, fc8, zc8⟩ := (unhide F7).pn_ne (unhide BXb) (by omega) (by intro x hx c; simp at hx; subst hx; intro q; cases q)
  go_wp2_with fail
  go_loopg [16] A.length (fun gk v wr => MatchRel B pb mv (l ++ (sep last ++ [109, 97, 116, 99, 104]) ++ ([32] ++ sh x)) A w gk v wr)
  case atStart => exact ⟨0, bvw2, lastw2, hide rfl, Nat.zero_le _, rfl, by simpa [armsW] using unhide N6, fiw2, FW.trans (unhide F7)⟩
  case round =>
    clear N6 F7 c8 fc8 zc8
    obtain ⟨j, bv2, last2, hgk, hj, rfl, N2, fi2, F2⟩ := hrel
    have zF2 := F2.size
    by_cases hjl : j < A.length
    · have hd : (j : Int) < (A.length : Int) := by omega
      obtain ⟨⟨u1, u2, k0, k1⟩, k2, k3⟩ := unhide Hc j hjl
      have cb : ∀ o, wr.cell? ⟨g, o, none⟩ = w.cell? ⟨g, o, none⟩ := fun o => World.cell?_of_block (a := ⟨g, o, none⟩) (F2.block g hgz ((unhide Hq).q g hg).2.1 (Or.inr ((unhide Hq).q g hg).2.2))
      rw [← cb] at k0 k1 k2 k3
      clear cb
      have PJ := (unhide Hp j hjl).fnQ (unhide Hq) F2
      have EJ := (unhide He j hjl).fnQ (unhide Hq) F2
      obtain ⟨tp, xp, hvp⟩ := PJ.iface
      obtain ⟨te, xe, hve⟩ := EJ.iface
      rw [hvp] at PJ k2
      rw [hve] at EJ k3
      have ft := armsW_take true A j hjl
      have fl := armsW_le true A (j + 1)
      rw [ft] at fl
      simp only [armW, List.length_append, List.length_cons, List.length_nil] at fl
      have hq := (unhide Hq).fn F2
      have hm := (unhide Hm).fn F2
      obtain ⟨db, hdb⟩ : ∃ db, db = (true && j == 0) := ⟨_, rfl⟩
      rw [← hdb] at ft fl
      have hdl := divT_list db
      have hds : (divT db).size ≤ 1000 := by cases db <;> decide
      have hdn : (divT db).toList ≠ [41] ∧ (divT db).toList ≠ [44] ∧ (divT db).toList ≠ [59] ∧ Fine (divT db) := by unfold Fine; rw [hdl]; cases db <;> simp
      obtain ⟨d1, d2, d3, dfi⟩ := hdn
      have HD : ∀ W : World, Calls Tryz.prog 81 #[.int .i64 (j : Int), .string kWith] W fun e w' => e = .returned (.string (divT db)) ∧ W = w' := fun W => (divider_C j kWith).mono fun e w' q => ⟨by rw [q.1, hdb]; unfold divT; by_cases hj0 : j = 0 <;> simp [hj0], q.2⟩
      rw [← hdl] at fl
      have HFT := hide ft
      have Hdl := hide hdl
      clear ft hdb hdl
      have hbW : Below wr.heap.size wr (wr.alloc (.cells #[.int .i64 u1, .int .i64 u2, .iface tp (.agg xp), .iface te (.agg xe)] 236)) := ((Below.refl _ _).alloc (Nat.le_refl _) (.cells #[.int .i64 u1, .int .i64 u2, .iface tp (.agg xp), .iface te (.agg xe)] 236))
      have zW : (wr.alloc (.cells #[.int .i64 u1, .int .i64 u2, .iface tp (.agg xp), .iface te (.agg xe)] 236)).heap.size = wr.heap.size + 1 := by simp
      have FW := FN.of (B := B) (pb := pb) hbW
      have hzp := N2.lt
      have N0 := hide (N2.bel hbW)
      have F0 := hide (FN.refl B pb (wr.alloc (.cells #[.int .i64 u1, .int .i64 u2, .iface tp (.agg xp), .iface te (.agg xe)] 236)))
      have BXarm := hide (Bx.at wr #[.int .i64 u1, .int .i64 u2, .iface tp (.agg xp), .iface te (.agg xe)] 236 (wr.heap.size) (by simp))
      have Vp := hide (PJ.bel hbW)
      have Ve := hide (EJ.bel hbW)
      have HM := hide (hm.fn FW)
      have HQ := hide (hq.fn FW)
      clear hm hq
      go_wp2_with fail
      refine (HD _).mono ?_
      rintro e w' ⟨rfl, rfl⟩
      clear HD
      have zp401 := (unhide N0).lt
      rw [zW] at zp401
      have hb401 : Below (wr.alloc (.cells #[.int .i64 u1, .int .i64 u2, .iface tp (.agg xp), .iface te (.agg xe)] 236)).heap.size (wr.alloc (.cells #[.int .i64 u1, .int .i64 u2, .iface tp (.agg xp), .iface te (.agg xe)] 236)) ((wr.alloc (.cells #[.int .i64 u1, .int .i64 u2, .iface tp (.agg xp), .iface te (.agg xe)] 236)).alloc (.cells #[.string (divT db)] 9)) := (Below.refl _ _).alloc (Nat.le_refl _) _
      have eT401 : putsL ((l ++ (sep last ++ [109, 97, 116, 99, 104]) ++ ([32] ++ sh x)) ++ armsW true (A.take j)) last2 [(divT db)] = (((l ++ (sep last ++ [109, 97, 116, 99, 104]) ++ ([32] ++ sh x)) ++ armsW true (A.take j)) ++ ([32] ++ (divT db).toList)) := by
        show (putL' ((l ++ (sep last ++ [109, 97, 116, 99, 104]) ++ ([32] ++ sh x)) ++ armsW true (A.take j)) last2 (divT db)) = _
        rw [putLoose rfl d1 d2 d3, sep_fine fi2]
      have HP401 := puts_C ((unhide N0).bel hb401) [(divT db)] (by intro t ht; simp only [List.mem_cons, List.not_mem_nil, or_false] at ht; rcases ht with rfl <;> first | decide | assumption) (by simp) (by first | omega | (simp only [List.length_append, List.length_cons, List.length_nil]; omega)) (wr.heap.size + 1) (Bx.at (wr.alloc (.cells #[.int .i64 u1, .int .i64 u2, .iface tp (.agg xp), .iface te (.agg xe)] 236)) #[.string (divT db)] 9 (wr.heap.size + 1) (by simp)) (by omega) (Or.inr ((Bx.at (wr.alloc (.cells #[.int .i64 u1, .int .i64 u2, .iface tp (.agg xp), .iface te (.agg xe)] 236)) #[.string (divT db)] 9 (wr.heap.size + 1) (by simp)).nby (by intro x hx c; simp at hx; subst hx; intro q; cases q)))
      rw [eT401] at HP401
      go_wp2_with fail
      refine HP401.mono ?_
      rintro e w3 ⟨rfl, bvw3, hN, hF⟩
      have N402 : Hid (PN w3 B pb bvw3 (((l ++ (sep last ++ [109, 97, 116, 99, 104]) ++ ([32] ++ sh x)) ++ armsW true (A.take j)) ++ ([32] ++ (divT db).toList)) (divT db) mv) := hide hN
      have F403 := hide ((unhide F0).trans ((FN.of hb401).trans hF))
      have zw3 := (unhide F403).size
      rw [zW] at zw3
      clear hN hF HP401 hb401 eT401 N0 F0
      obtain ⟨c404, fc404, zc404⟩ := (unhide F403).pn_ne (unhide BXarm) (by omega) (by intro x hx c; simp at hx; subst hx; intro q; cases q)
      have HS405 := (HP j hjl) w3 B pb _ _ (divT db) mv Q _ 0 (unhide N402) ((unhide Vp).fnQ (unhide HQ) (unhide F403)) ((unhide HQ).fn (unhide F403)) (by omega) (by rw [sep_fine dfi]; rw [atPt_0]; simp only [List.length_append, List.length_cons, List.length_nil]; omega) hB
      rw [sep_fine dfi] at HS405
      rw [atPt_0] at HS405
      go_wp2_with fail
      clear c404 fc404 zc404
      refine HS405.mono ?_
      rintro e w4 ⟨rfl, bvw4, lastw4, hN, fiw4, hF⟩
      have N406 := hide hN
      have F407 := hide ((unhide F403).trans hF)
      have zw4 := (unhide F407).size
      rw [zW] at zw4
      clear hN hF HS405 N402 F403
      have zp408 := (unhide N406).lt
      have hb408 : Below w4.heap.size w4 (w4.alloc (.cells #[.string kArrow] 9)) := (Below.refl _ _).alloc (Nat.le_refl _) _
      have eT408 : putsL ((((l ++ (sep last ++ [109, 97, 116, 99, 104]) ++ ([32] ++ sh x)) ++ armsW true (A.take j)) ++ ([32] ++ (divT db).toList)) ++ ([32] ++ sh A[j].1)) lastw4 [kArrow] = (((((l ++ (sep last ++ [109, 97, 116, 99, 104]) ++ ([32] ++ sh x)) ++ armsW true (A.take j)) ++ ([32] ++ (divT db).toList)) ++ ([32] ++ sh A[j].1)) ++ ([32] ++ [45, 62])) := by
        show (putL' ((((l ++ (sep last ++ [109, 97, 116, 99, 104]) ++ ([32] ++ sh x)) ++ armsW true (A.take j)) ++ ([32] ++ (divT db).toList)) ++ ([32] ++ sh A[j].1)) lastw4 kArrow) = _
        rw [putLoose (toList_mk [45, 62]) (by decide) (by decide) (by decide), sep_fine fiw4]
      have HP408 := puts_C ((unhide N406).bel hb408) [kArrow] (by intro t ht; simp only [List.mem_cons, List.not_mem_nil, or_false] at ht; rcases ht with rfl <;> first | decide | assumption) (by simp) (by first | omega | (simp only [List.length_append, List.length_cons, List.length_nil]; omega)) (w4.heap.size) (Bx.at w4 #[.string kArrow] 9 (w4.heap.size) (by simp)) (by omega) (Or.inr ((Bx.at w4 #[.string kArrow] 9 (w4.heap.size) (by simp)).nby (by intro x hx c; simp at hx; subst hx; intro q; cases q)))
      rw [eT408] at HP408
      go_wp2_with fail
      refine HP408.mono ?_
      rintro e w5 ⟨rfl, bvw5, hN, hF⟩
      have N409 : Hid (PN w5 B pb bvw5 (((((l ++ (sep last ++ [109, 97, 116, 99, 104]) ++ ([32] ++ sh x)) ++ armsW true (A.take j)) ++ ([32] ++ (divT db).toList)) ++ ([32] ++ sh A[j].1)) ++ ([32] ++ [45, 62])) kArrow mv) := hide hN
      have F410 := hide ((unhide F407).trans ((FN.of hb408).trans hF))
      have zw5 := (unhide F410).size
      rw [zW] at zw5
      clear hN hF HP408 hb408 eT408 N406 F407
      obtain ⟨c411, fc411, zc411⟩ := (unhide F410).pn_ne (unhide BXarm) (by omega) (by intro x hx c; simp at hx; subst hx; intro q; cases q)
      have HS412 := (HE j hjl) w5 B pb _ _ kArrow mv Q _ 0 (unhide N409) ((unhide Ve).fnQ (unhide HQ) (unhide F410)) ((unhide HQ).fn (unhide F410)) ((unhide HM).fn (unhide F410)) (by omega) (by rw [sepTok (toList_mk [45, 62]) (by decide) (by decide)]; rw [atW_0]; simp only [List.length_append, List.length_cons, List.length_nil]; omega) hB
      rw [sepTok (toList_mk [45, 62]) (by decide) (by decide)] at HS412
      rw [atW_0] at HS412
      go_wp2_with fail
      clear c411 fc411 zc411
      refine HS412.mono ?_
      rintro e w6 ⟨rfl, bvw6, lastw6, hN, fiw6, hF⟩
      have N413 := hide hN
      have F414 := hide ((unhide F410).trans hF)
      have zw6 := (unhide F414).size
      rw [zW] at zw6
      clear hN hF HS412 N409 F410
      go_wp2_with fail
      go_roundg (A.length - (j + 1))
      case measure => rw [unhide hgk]; omega
      case rel =>
        refine ⟨j + 1, bvw6, lastw6, hide rfl, by omega, by go_num, ?_, fiw6, F2.trans (FW.trans (unhide F414))⟩
        rw [unhide HFT]
        have e9 : (l ++ (sep last ++ [109, 97, 116, 99, 104]) ++ ([32] ++ sh x)) ++ (armsW true (A.take j) ++ armW db A[j]) = ((((((l ++ (sep last ++ [109, 97, 116, 99, 104]) ++ ([32] ++ sh x)) ++ armsW true (A.take j)) ++ ([32] ++ (divT db).toList)) ++ ([32] ++ sh A[j].1)) ++ ([32] ++ [45, 62])) ++ ([32] ++ sh A[j].2)) := by rw [unhide Hdl]; simp [armW]
        rw [e9]
        exact unhide N413
    · have hd : decide ((j : Int) < (A.length : Int)) = false := by simp; omega
      have ej : j = A.length := by omega
      subst ej
      rw [List.take_length] at N2
      have zq := N2.lt
      have hbE : Below wr.heap.size wr (wr.alloc (.cells #[.string kEnd] 9)) := (Below.refl _ _).alloc (Nat.le_refl _) _
      have eT : putsL ((l ++ (sep last ++ [109, 97, 116, 99, 104]) ++ ([32] ++ sh x)) ++ armsW true A) last2 [kEnd] = ((l ++ (sep last ++ [109, 97, 116, 99, 104]) ++ ([32] ++ sh x)) ++ armsW true A) ++ ([32] ++ [101, 110, 100]) := by
        show (putL' _ last2 kEnd) = _
        rw [putLoose (toList_mk [101, 110, 100]) (by decide) (by decide) (by decide), sep_fine fi2]
      have HPE := puts_C (N2.bel hbE) [kEnd] (by intro t ht; simp only [List.mem_cons, List.not_mem_nil, or_false] at ht; subst ht; decide) (by simp) (by simp only [List.length_append, List.length_cons, List.length_nil]; omega) wr.heap.size (Bx.new wr #[.string kEnd] 9) (by omega) (Or.inr ((Bx.new wr #[.string kEnd] 9).nby (by intro x hx c; simp at hx; subst hx; intro q; cases q)))
      rw [eT] at HPE
      go_wp2_with fail
      refine HPE.mono ?_
      rintro e w9 ⟨rfl, bv9, hN9, hF9⟩
      have HN9 := hide hN9
      have HF9 := hide (F2.trans ((FN.of hbE).trans hF9))
      clear hN9 hF9 HPE
      go_wp2_with fail
      go_end0
      refine ⟨rfl, bv9, kEnd, ?_, fine_mk (toList_mk [101, 110, 100]) (by decide) (by decide), unhide HF9⟩
      show PN w9 B pb bv9 (l ++ (sep last ++ ([109, 97, 116, 99, 104] ++ (([32] ++ sh x) ++ (armsW true A ++ ([32] ++ [101, 110, 100])))))) kEnd mv
      rw [show l ++ (sep last ++ ([109, 97, 116, 99, 104] ++ (([32] ++ sh x) ++ (armsW true A ++ ([32] ++ [101, 110, 100]))))) = ((l ++ (sep last ++ [109, 97, 116, 99, 104]) ++ ([32] ++ sh x)) ++ armsW true A) ++ ([32] ++ [101, 110, 100]) by simp]
      exact unhide HN9
end
end Go.Proofs.YteneoapickhpdaaGreatDoor
