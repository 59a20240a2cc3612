import Derived.Deep.RegionHeld3
import Derived.Test.YtfflpeklkfjdnaaGreatDoorKSh
set_option linter.unusedSimpArgs false
set_option linter.unusedVariables false
set_option linter.unusedSectionVars false
namespace Go.Proofs.YtfflpeklkfjdnaaGreatDoor
open Go Go.RowKit
section
variable {rb g cap : Nat} {T : List Pu.Tok} {σ : St} {w : World}
theorem tok_f2 (a0 a1 a2 a3 : Value) (w : World) : (Instr.field 58 (.agg #[a0, a1, a2, a3]) 2).run Tryz.prog w = .ok a2 w := by kernel_rfl

set_option maxRecDepth 100000 in
set_option maxHeartbeats 4000000 in
theorem typed_no {n : Nat} {head : M Nd} (h : SS w rb g cap T σ) (hf : ∀ k, σ = .ok k → T.length ≤ k + n) (HH : NodeC rb g cap T 114 #[.pointer (some ⟨rb, 0, none⟩), .int .i64 1] head n) (hk : isS T (nx σ head) kArrow = false) :
    Calls Tryz.prog 131 #[.pointer (some ⟨rb, 0, none⟩)] w fun e w' => ∃ x : NV, e = .returned x.v ∧ Ke rb w w' ∧ SS w' rb g cap T (nx σ head) ∧ ∀ k a k', σ = .ok k → head k = .ok (a, k') → NR w' (fun b => w.heap.size ≤ b) a x := by
  have HH' := hide HH
  have hf' := hide hf
  have ff := tok_f2
  clear HH hf
  have hr := h.hr
  have hg := h.hg
  have H1 := hide h
  have K2 := hide (Ke.refl rb w)
  clear h
  go_enter Tryz.func131, Tryz.ntmps131
  go_wp2_with fail
  have H3 := hide ((unhide H1).alloc (.cells zNode 62))
  have K4 := hide ((unhide K2).alloc (.cells zNode 62))
  have B5 := hide (Bx.at w zNode 62 (w.heap.size) (by simp [World.setCell]))
  clear H1 K2
  refine (next_S (unhide H3)).mono ?_
  rintro e w1 ⟨t, rfl, hb, ht⟩
  have H6 := hide ((unhide H3).below hb)
  have K7 := hide ((unhide K4).below hb)
  have z8 := hb.size
  try simp [World.setCell] at z8
  have B9 := hide ((unhide B5).below hb)
  clear H3 K4 B5 hb
  obtain ⟨c10, f11, y12⟩ := unhide B9
  clear ht
  unfold tokV
  go_wp2_with fail
  clear c10 f11 y12
  refine (unhide HH' _ _ (unhide H6) (unhide hf')).mono ?_
  rintro e w2 ⟨x, rfl, hb, hS, hN⟩
  have H16 := hide hS
  have K17 := hide ((unhide K7).trans hb)
  have z18 := hb.size
  try simp [World.setCell] at z18
  have B19 := hide ((unhide B9).ke hb (by omega))
  clear H6 K7 B9 hb hS
  obtain ⟨c20, f21, y22⟩ := unhide B19
  have hN1 := hide (fun k a k' (h1 : σ = .ok k) (hq : head k = .ok (a, k')) => (hN k a k' h1 hq).rng w1.heap.size (fun b hb => by simpa using hb))
  clear hN
  unfold NV.v
  go_wp2_with fail
  have H23 := hide ((unhide H16).alloc (.cells (nvA x) 62))
  have K24 := hide ((unhide K17).alloc (.cells (nvA x) 62))
  have B25 := hide ((unhide B19).alloc (.cells (nvA x) 62))
  have B26 := hide (Bx.at w2 (nvA x) 62 (w2.heap.size) (by simp [World.setCell]))
  have R27 := hide (fun k a k' h1 hq => (NR.bel (unhide hN1 k a k' h1 hq) ((Below.refl _ _).alloc (Nat.le_refl _) (.cells (nvA x) 62))))
  clear H16 K17 B19 hN1 c20 f21 y22
  refine (is_S (unhide H23) kArrow).mono ?_
  rintro e w3 ⟨rfl, hb⟩
  have H28 := hide ((unhide H23).below hb)
  have K29 := hide ((unhide K24).below hb)
  have z30 := hb.size
  try simp [World.setCell] at z30
  have B31 := hide ((unhide B25).below hb)
  have B32 := hide ((unhide B26).below hb)
  have R33 := hide (fun k a k' h1 hq => NR.bel (unhide R27 k a k' h1 hq) hb)
  clear H23 K24 B25 B26 R27 hb
  obtain ⟨c34, f35, y36⟩ := unhide B31
  obtain ⟨c37, f38, y39⟩ := unhide B32
  go_wp2_with fail
  have H40 := hide ((unhide H28).st7 (b := w.heap.size) (by omega) (by omega) x)
  have K41 := hide ((unhide K29).st7 (b := w.heap.size) (by omega) x)
  have B42 := hide ((unhide B31).st7 rfl x)
  have B43 := hide ((unhide B32).stO7 (b := w.heap.size) (by omega) x)
  have R44 := hide (fun k a k' h1 hq => (NRst7 (unhide R33 k a k' h1 hq) (b2 := w.heap.size) (fun b hb _ => by omega) x))
  clear H28 K29 B31 B32 R33 c34 f35 y36 c37 f38 y39
  obtain ⟨cF, fF, zF⟩ := unhide B42
  refine bodyPost_ret (v := NV.v x) (by simp [results, Tryz.results131, go_sem, cF, NV.v]; try rfl) rfl ⟨_, rfl, unhide K41, unhide H40, fun k a k' h1 hq => ?_⟩
  exact (unhide R44 k a k' h1 hq).wide _ (fun b hb => by omega)

set_option maxRecDepth 100000 in
set_option maxHeartbeats 4000000 in
theorem typed_yes {n k : Nat} {head typ : M Nd} (h : SS w rb g cap T (.ok k)) (hf : T.length ≤ k + (n + 1)) (HH : NodeC rb g cap T 114 #[.pointer (some ⟨rb, 0, none⟩), .int .i64 1] head (n + 1)) (HT : NodeC rb g cap T 131 #[.pointer (some ⟨rb, 0, none⟩)] typ n) {a : Nd} {k1 : Nat} (hp : head k = .ok (a, k1)) (hlt : k < k1) (hk : isT (tk T k1) kArrow = true) :
    Calls Tryz.prog 131 #[.pointer (some ⟨rb, 0, none⟩)] w fun e w' => ∃ x : NV, e = .returned x.v ∧ Ke rb w w' ∧ SS w' rb g cap T (nx (.ok (k1 + 1)) typ) ∧ ∀ b k', typ (k1 + 1) = .ok (b, k') → NR w' (fun b => w.heap.size ≤ b) (.mk 17 kNo 0 [a, b] (tk T k).frm (lastK T k') (tk T k).frm) x := by
  have HH' := hide HH
  have HT' := hide HT
  have hp' := hide hp
  have ff := tok_f2
  have h7 : (tk T k1).kind ≠ 7 := by have := isT_kind hk; omega
  have hD : isS T (.ok k1) kArrow = true := hk
  clear HH HT hp hk
  have hr := h.hr
  have hg := h.hg
  have H1 := hide h
  have K2 := hide (Ke.refl rb w)
  clear h
  go_enter Tryz.func131, Tryz.ntmps131
  go_wp2_with fail
  have H3 := hide ((unhide H1).alloc (.cells zNode 62))
  have K4 := hide ((unhide K2).alloc (.cells zNode 62))
  have B5 := hide (Bx.at w zNode 62 (w.heap.size) (by simp [World.setCell]))
  clear H1 K2
  refine (next_S (unhide H3)).mono ?_
  rintro e w1 ⟨t, rfl, hb, ht⟩
  have H6 := hide ((unhide H3).below hb)
  have K7 := hide ((unhide K4).below hb)
  have z8 := hb.size
  try simp [World.setCell] at z8
  have B9 := hide ((unhide B5).below hb)
  clear H3 K4 B5 hb
  obtain ⟨c10, f11, y12⟩ := unhide B9
  have ht' := ht k rfl
  subst ht'
  clear ht
  unfold tokV
  go_wp2_with fail
  clear c10 f11 y12
  refine (unhide HH' _ _ (unhide H6) (by intro j hj; cases hj; omega)).mono ?_
  rintro e w2 ⟨x, rfl, hb, hS, hN⟩
  have H16 := hide hS
  have K17 := hide ((unhide K7).trans hb)
  have z18 := hb.size
  try simp [World.setCell] at z18
  have B19 := hide ((unhide B9).ke hb (by omega))
  clear H6 K7 B9 hb hS
  obtain ⟨c20, f21, y22⟩ := unhide B19
  have hN1 := hide ((hN _ _ _ rfl (unhide hp')).rng w1.heap.size (fun b hb => by simpa using hb))
  clear hN
  rw [nx_ok (unhide hp')] at H16
  unfold NV.v
  go_wp2_with fail
  have H23 := hide ((unhide H16).alloc (.cells (nvA x) 62))
  have K24 := hide ((unhide K17).alloc (.cells (nvA x) 62))
  have B25 := hide ((unhide B19).alloc (.cells (nvA x) 62))
  have B26 := hide (Bx.at w2 (nvA x) 62 (w2.heap.size) (by simp [World.setCell]))
  have R27 := hide ((NR.bel (unhide hN1 ) ((Below.refl _ _).alloc (Nat.le_refl _) (.cells (nvA x) 62))))
  clear H16 K17 B19 hN1 c20 f21 y22
  refine (is_S (unhide H23) kArrow).mono ?_
  rintro e w3 ⟨rfl, hb⟩
  have H28 := hide ((unhide H23).below hb)
  have K29 := hide ((unhide K24).below hb)
  have z30 := hb.size
  try simp [World.setCell] at z30
  have B31 := hide ((unhide B25).below hb)
  have B32 := hide ((unhide B26).below hb)
  have R33 := hide (NR.bel (unhide R27 ) hb)
  clear H23 K24 B25 B26 R27 hb
  obtain ⟨c34, f35, y36⟩ := unhide B31
  obtain ⟨c37, f38, y39⟩ := unhide B32
  go_wp2_with fail
  clear c34 f35 y36 c37 f38 y39
  refine (pass_S (unhide H28) h7).mono ?_
  rintro e w4 ⟨rfl, hb, hS⟩
  have H44 := hide hS
  have K45 := hide ((unhide K29).trans hb)
  have z46 := hb.size
  try simp [World.setCell] at z46
  have B47 := hide ((unhide B31).ke hb (by omega))
  have B48 := hide ((unhide B32).ke hb (by omega))
  have R49 := hide (NR.ke (unhide R33 ) hb (fun b hb => by omega))
  clear H28 K29 B31 B32 R33 hb hS
  obtain ⟨c50, f51, y52⟩ := unhide B47
  obtain ⟨c53, f54, y55⟩ := unhide B48
  go_wp2_with fail
  clear c50 f51 y52 c53 f54 y55
  refine (unhide HT' _ _ (unhide H44) (by intro j hj; cases hj; omega)).mono ?_
  rintro e w5 ⟨y, rfl, hb, hS, hN⟩
  have H60 := hide hS
  have K61 := hide ((unhide K45).trans hb)
  have z62 := hb.size
  try simp [World.setCell] at z62
  have B63 := hide ((unhide B47).ke hb (by omega))
  have B64 := hide ((unhide B48).ke hb (by omega))
  have R65 := hide (NR.ke (unhide R49 ) hb (fun b hb => by omega))
  clear H44 K45 B47 B48 R49 hb hS
  obtain ⟨c66, f67, y68⟩ := unhide B63
  obtain ⟨c69, f70, y71⟩ := unhide B64
  have hN2 := hide (fun b k' (hq : typ (k1 + 1) = .ok (b, k')) => (hN _ b k' rfl hq).rng w4.heap.size (fun b hb => by simpa using hb))
  clear hN
  unfold NV.v
  go_wp2_with fail
  have H72 := hide ((unhide H60).alloc (.cells (nvA y) 62))
  have K73 := hide ((unhide K61).alloc (.cells (nvA y) 62))
  have B74 := hide ((unhide B63).alloc (.cells (nvA y) 62))
  have B75 := hide ((unhide B64).alloc (.cells (nvA y) 62))
  have B76 := hide (Bx.at w5 (nvA y) 62 (w5.heap.size) (by simp [World.setCell]))
  have R77 := hide ((NR.bel (unhide R65 ) ((Below.refl _ _).alloc (Nat.le_refl _) (.cells (nvA y) 62))))
  have R78 := hide (fun b k' hq => (NR.bel (unhide hN2 b k' hq) ((Below.refl _ _).alloc (Nat.le_refl _) (.cells (nvA y) 62))))
  clear H60 K61 B63 B64 R65 hN2
  have HX : ∀ W, (W = (w5.alloc (.cells (nvA y) 62)).drew ∨ W = ((w5.alloc (.cells (nvA y) 62)).alloc (.cells (nvB x y) 62)).drew) → SS W rb g cap T (nx (.ok (k1 + 1)) typ) ∧ ∀ w6, Below W.heap.size W w6 → SS w6 rb g cap T (nx (.ok (k1 + 1)) typ) ∧ Ke rb w w6 ∧ Bx w6 (w.heap.size) #[.int .i64 0, .string ⟨#[]⟩, .int .i64 0, .slice none 0 0, .int .i64 0, .int .i64 0, .int .i64 0] ∧ Bx w6 (w2.heap.size) #[.int .i64 x.k, .string x.s, .int .i64 x.n, .slice x.la x.ll x.lc, .int .i64 x.f, .int .i64 x.t, .int .i64 x.a] ∧ Bx w6 (w5.heap.size) #[.int .i64 y.k, .string y.s, .int .i64 y.n, .slice y.la y.ll y.lc, .int .i64 y.f, .int .i64 y.t, .int .i64 y.a] ∧ NR w6 (fun b => w.heap.size < b ∧ b < w5.heap.size) a x ∧ (∀ b k', typ (k1 + 1) = .ok (b, k') → NR w6 (fun b => w.heap.size < b ∧ b < w5.heap.size) b y) ∧ (W = ((w5.alloc (.cells (nvA y) 62)).alloc (.cells (nvB x y) 62)).drew → Bx w6 (w5.heap.size + 1) (nvB x y)) := by
    rintro W (rfl | rfl)
    · exact ⟨(unhide H72).drew, fun w6 hb => ⟨((unhide H72).drew).below hb, ((unhide K73).drew).below hb, ((unhide B74).drew).below hb, ((unhide B75).drew).below hb, ((unhide B76).drew).below hb, (((unhide R77).move (Nat.le_refl _) (fun _ _ _ => rfl) (fun b hb _ => by omega)).bel ((Below.refl _ _).drew)).bel hb, fun b k' hq => (((unhide R78 b k' hq).move (Nat.le_refl _) (fun _ _ _ => rfl) (fun b hb _ => by omega)).bel ((Below.refl _ _).drew)).bel hb, fun e => absurd (congrArg (fun w => w.heap.size) e) (by simp)⟩⟩
    · exact ⟨((unhide H72).alloc (.cells (nvB x y) 62)).drew, fun w6 hb => ⟨(((unhide H72).alloc (.cells (nvB x y) 62)).drew).below hb, (((unhide K73).alloc (.cells (nvB x y) 62)).drew).below hb, (((unhide B74).alloc (.cells (nvB x y) 62)).drew).below hb, (((unhide B75).alloc (.cells (nvB x y) 62)).drew).below hb, (((unhide B76).alloc (.cells (nvB x y) 62)).drew).below hb, (((unhide R77).move (Nat.le_refl _) (fun _ _ _ => rfl) (fun b hb _ => by omega)).bel (((Below.refl _ _).alloc (Nat.le_refl _) (.cells (nvB x y) 62)).drew)).bel hb, fun b k' hq => (((unhide R78 b k' hq).move (Nat.le_refl _) (fun _ _ _ => rfl) (fun b hb _ => by omega)).bel (((Below.refl _ _).alloc (Nat.le_refl _) (.cells (nvB x y) 62)).drew)).bel hb, fun _ => ((Bx.at _ (nvB x y) 62 (w5.heap.size + 1) (by simp)).drew).below hb⟩⟩
  have HX1 := hide HX
  clear HX
  have ne1 : ¬ w.heap.size = w2.heap.size := by omega
  have ne2 : ¬ w.heap.size = w5.heap.size := by omega
  go_region_held3 (fun w' => w'.cell? ⟨w2.heap.size, 0, none⟩ = some (.int .i64 x.k) ∧ w'.cell? ⟨w2.heap.size, 1, none⟩ = some (.string x.s) ∧ w'.cell? ⟨w2.heap.size, 2, none⟩ = some (.int .i64 x.n) ∧ w'.cell? ⟨w2.heap.size, 3, none⟩ = some (.slice x.la x.ll x.lc) ∧ w'.cell? ⟨w2.heap.size, 4, none⟩ = some (.int .i64 x.f) ∧ w'.cell? ⟨w2.heap.size, 5, none⟩ = some (.int .i64 x.t) ∧ w'.cell? ⟨w2.heap.size, 6, none⟩ = some (.int .i64 x.a) ∧ w'.cell? ⟨w5.heap.size, 0, none⟩ = some (.int .i64 y.k) ∧ w'.cell? ⟨w5.heap.size, 1, none⟩ = some (.string y.s) ∧ w'.cell? ⟨w5.heap.size, 2, none⟩ = some (.int .i64 y.n) ∧ w'.cell? ⟨w5.heap.size, 3, none⟩ = some (.slice y.la y.ll y.lc) ∧ w'.cell? ⟨w5.heap.size, 4, none⟩ = some (.int .i64 y.f) ∧ w'.cell? ⟨w5.heap.size, 5, none⟩ = some (.int .i64 y.t) ∧ w'.cell? ⟨w5.heap.size, 6, none⟩ = some (.int .i64 y.a)) (first | go_keep | (simp [World.cell?_setCell_other, ne1, ne2, ac, bc])) (first | (go_at_call 202; refine (last_S (unhide HX1 _ (by first | exact Or.inl rfl | exact Or.inr rfl)).1).mono ?_; rintro e w6 ⟨m, rfl, hb, hn⟩; obtain ⟨S6, K6, r6, a6, b6, Na6, Nb6, R6⟩ := (unhide HX1 _ (by first | exact Or.inl rfl | exact Or.inr rfl)).2 _ hb; have zz := hb.size; obtain ⟨rc, rf, rz⟩ := r6; obtain ⟨ac, af, az⟩ := a6; obtain ⟨bc, bf, bz⟩ := b6; have HS6 := hide S6; have HK6 := hide K6; have HNa := hide Na6; have HNb := hide Nb6; have HR6 := hide R6; have Hn := hide hn; clear S6 K6 Na6 Nb6 R6 hb hn))
  · go_wp2_with fail
    refine bodyPost_ret (v := NV.v ⟨17, kNo, 0, some ⟨w5.heap.size + 1, 0, none⟩, 2, 2, ((tk T k).frm : Int), (m : Int), ((tk T k).frm : Int)⟩) (by simp [results, Tryz.results131, go_sem, rc, rz, NV.v]; try rfl) rfl ⟨_, rfl, ?_, ?_, fun b k' hq => ?_⟩
    · exact (unhide HK6).set7 (Nat.le_refl _) _ _ _ _ _ _ _
    · exact (unhide HS6).set7 (by omega) (by omega) _ _ _ _ _ _ _
    · obtain rfl : m = lastK T k' := unhide Hn k' (nx_ok hq)
      exact NR.two (P := fun b => w.heap.size ≤ b) 17 kNo 0 (tk T k).frm (lastK T k') (tk T k).frm ((unhide HR6 (by first | trivial | rfl)).setO7 (b := w.heap.size) (by omega) _ _ _ _ _ _ _) rfl ((((((((((unhide HNa).set (b2 := w.heap.size) (fun b hb _ => by omega) 0 _).set (b2 := w.heap.size) (fun b hb _ => by omega) 1 _).set (b2 := w.heap.size) (fun b hb _ => by omega) 2 _).set (b2 := w.heap.size) (fun b hb _ => by omega) 3 _).set (b2 := w.heap.size) (fun b hb _ => by omega) 4 _).set (b2 := w.heap.size) (fun b hb _ => by omega) 5 _).set (b2 := w.heap.size) (fun b hb _ => by omega) 6 _)).wide _ (fun b hb => by omega)) ((((((((((unhide HNb b k' hq).set (b2 := w.heap.size) (fun b hb _ => by omega) 0 _).set (b2 := w.heap.size) (fun b hb _ => by omega) 1 _).set (b2 := w.heap.size) (fun b hb _ => by omega) 2 _).set (b2 := w.heap.size) (fun b hb _ => by omega) 3 _).set (b2 := w.heap.size) (fun b hb _ => by omega) 4 _).set (b2 := w.heap.size) (fun b hb _ => by omega) 5 _).set (b2 := w.heap.size) (fun b hb _ => by omega) 6 _)).wide _ (fun b hb => by omega)) (by omega) 2
  · go_wp2_with fail
    refine bodyPost_ret (v := NV.v ⟨17, kNo, 0, some ⟨w6.heap.size, 0, none⟩, 2, 2, ((tk T k).frm : Int), (m : Int), ((tk T k).frm : Int)⟩) (by simp [results, Tryz.results131, go_sem, rc, rz, NV.v]; try rfl) rfl ⟨_, rfl, ?_, ?_, fun b k' hq => ?_⟩
    · exact ((unhide HK6).set7 (Nat.le_refl _) _ _ _ _ _ _ _).alloc _
    · exact ((unhide HS6).set7 (by omega) (by omega) _ _ _ _ _ _ _).alloc _
    · obtain rfl : m = lastK T k' := unhide Hn k' (nx_ok hq)
      exact NR.two (P := fun b => w.heap.size ≤ b) 17 kNo 0 (tk T k).frm (lastK T k') (tk T k).frm (Bx.at _ _ _ _ (by simp [World.setCell])) rfl (NR.bel ((((((((((unhide HNa).set (b2 := w.heap.size) (fun b hb _ => by omega) 0 _).set (b2 := w.heap.size) (fun b hb _ => by omega) 1 _).set (b2 := w.heap.size) (fun b hb _ => by omega) 2 _).set (b2 := w.heap.size) (fun b hb _ => by omega) 3 _).set (b2 := w.heap.size) (fun b hb _ => by omega) 4 _).set (b2 := w.heap.size) (fun b hb _ => by omega) 5 _).set (b2 := w.heap.size) (fun b hb _ => by omega) 6 _)).wide _ (fun b hb => by omega)) ((Below.refl _ _).alloc (Nat.le_refl _) _)) (NR.bel ((((((((((unhide HNb b k' hq).set (b2 := w.heap.size) (fun b hb _ => by omega) 0 _).set (b2 := w.heap.size) (fun b hb _ => by omega) 1 _).set (b2 := w.heap.size) (fun b hb _ => by omega) 2 _).set (b2 := w.heap.size) (fun b hb _ => by omega) 3 _).set (b2 := w.heap.size) (fun b hb _ => by omega) 4 _).set (b2 := w.heap.size) (fun b hb _ => by omega) 5 _).set (b2 := w.heap.size) (fun b hb _ => by omega) 6 _)).wide _ (fun b hb => by omega)) ((Below.refl _ _).alloc (Nat.le_refl _) _)) (by omega) 2
end
end Go.Proofs.YtfflpeklkfjdnaaGreatDoor
namespace Go.Proofs.YtfflpeklkfjdnaaGreatDoor
open Go Go.RowKit
section
variable {rb g cap : Nat} {T : List Pu.Tok} {σ : St} {w : World}

set_option maxRecDepth 100000 in
set_option maxHeartbeats 4000000 in
theorem part_typed {n : Nat} {m : M Nd} (HG : NodeC rb g cap T 131 #[.pointer (some ⟨rb, 0, none⟩)] m n) : NodeC rb g cap T 301 #[.pointer (some ⟨rb, 0, none⟩), .int .i64 1] m n := by
  intro w σ h hf
  have HG' := hide HG
  have hf' := hide hf
  clear HG hf
  have hr := h.hr
  have hg := h.hg
  have H1 := hide h
  have K2 := hide (Ke.refl rb w)
  clear h
  go_enter Tryz.func301, Tryz.ntmps301
  go_wp2_with fail
  have H3 := hide ((unhide H1).alloc (.cells zNode 62))
  have K4 := hide ((unhide K2).alloc (.cells zNode 62))
  have B5 := hide (Bx.at w zNode 62 (w.heap.size) (by simp [World.setCell]))
  clear H1 K2
  refine (unhide HG' _ _ (unhide H3) (unhide hf')).mono ?_
  rintro e w1 ⟨x, rfl, hb, hS, hN⟩
  have H6 := hide hS
  have K7 := hide ((unhide K4).trans hb)
  have z8 := hb.size
  try simp [World.setCell] at z8
  have B9 := hide ((unhide B5).ke hb (by omega))
  clear H3 K4 B5 hb hS
  obtain ⟨c10, f11, y12⟩ := unhide B9
  have hN1 := hide (fun k a k' (h1 : σ = .ok k) (hq : m k = .ok (a, k')) => (hN k a k' h1 hq).rng (w.heap.size + 1) (fun b hb => by simpa using hb))
  clear hN
  unfold NV.v
  go_wp2_with fail
  have H13 := hide ((unhide H6).st7 (b := w.heap.size) (by omega) (by omega) x)
  have K14 := hide ((unhide K7).st7 (b := w.heap.size) (by omega) x)
  have B15 := hide ((unhide B9).st7 rfl x)
  have R16 := hide (fun k a k' h1 hq => (NRst7 (unhide hN1 k a k' h1 hq) (b2 := w.heap.size) (fun b hb _ => by omega) x))
  clear H6 K7 B9 hN1 c10 f11 y12
  obtain ⟨cF, fF, zF⟩ := unhide B15
  refine bodyPost_ret (v := NV.v x) (by simp [results, Tryz.results301, go_sem, cF, NV.v]; try rfl) rfl ⟨_, rfl, unhide K14, unhide H13, fun k a k' h1 hq => ?_⟩
  exact (unhide R16 k a k' h1 hq).wide _ (fun b hb => by omega)

theorem NodeC.zero {F : FuncId} {args : Array Value} {m m' : M Nd} (h : NodeC rb g cap T F args m 0) : NodeC rb g cap T F args m' 0 := by
  intro w σ hS hf
  cases σ with
  | ok k => have h' : RS w rb g cap T k noFl := hS; have := h'.hk; have := hf k rfl; omega
  | error f =>
    refine (h w (.error f) hS (fun k hk => by cases hk)).mono ?_
    rintro e w' ⟨x, he, hK, hS', -⟩
    exact ⟨x, he, hK, hS', fun k a k' hk => by cases hk⟩
theorem small_C0 (sort : Nat) (m : M Nd) : NodeC rb g cap T 199 #[.pointer (some ⟨rb, 0, none⟩), .int .i64 (sort : Int)] m 0 := by
  intro w σ hS hf
  cases σ with
  | ok k => have h' : RS w rb g cap T k noFl := hS; have := h'.hk; have := hf k rfl; omega
  | error f =>
    refine (small_bad hS sort).mono ?_
    rintro e w' ⟨rfl, hK, hS'⟩
    exact ⟨_, rfl, hK, hS', fun k a k' hk => by cases hk⟩
theorem head_C0 (sort : Nat) (hs : sort = 1 ∨ sort = 2 ∨ sort = 3) (m : M Nd) : NodeC rb g cap T 114 #[.pointer (some ⟨rb, 0, none⟩), .int .i64 (sort : Int)] m 0 :=
  (head_C sort hs (small_C0 sort (smallM T (wrongM T) (wrongM T) sort)) (small_mono wrong_mono wrong_mono sort) (small_up sort)).zero
theorem typed_C {n : Nat} {head typ : M Nd} (HH : NodeC rb g cap T 114 #[.pointer (some ⟨rb, 0, none⟩), .int .i64 1] head (n + 1)) (HT : NodeC rb g cap T 131 #[.pointer (some ⟨rb, 0, none⟩)] typ n) (hm : ∀ k a k', head k = .ok (a, k') → k < k') :
    NodeC rb g cap T 131 #[.pointer (some ⟨rb, 0, none⟩)] (fun k => bnd head (arrowM T typ (tk T k).frm) k) (n + 1) := by
  intro w σ h hf
  rcases hk : isS T (nx σ head) kArrow with _ | _
  · refine (typed_no h hf HH hk).mono ?_
    rintro e w' ⟨x, he, hK, hS, hN⟩
    have hE : ∀ k, σ = .ok k → ∀ r, head k = r → bnd head (arrowM T typ (tk T k).frm) k = r := by
      intro k hs r hr
      subst hs
      cases r with
      | error f => rw [bnd_err hr]
      | ok p =>
        obtain ⟨a, k1⟩ := p
        rw [bnd_ok hr]
        rw [nx_ok hr] at hk
        unfold arrowM
        rw [if_neg (by rw [show isT (tk T k1) kArrow = false from hk]; simp)]
    refine ⟨x, he, hK, ?_, fun k a k' hs hq => hN k a k' hs ?_⟩
    · cases σ with
      | error f => exact hS
      | ok k => simp only [nx] at hS ⊢; rw [hE k rfl _ rfl]; exact hS
    · rw [← hE k hs _ rfl]; exact hq
  · obtain ⟨k1, hs1, hk1, -⟩ := isS_yes hk
    cases σ with
    | error f => cases hs1
    | ok k =>
      rcases hp : head k with f | ⟨a, k2⟩
      · rw [nx_err hp] at hs1; cases hs1
      · rw [nx_ok hp] at hs1
        cases hs1
        have hE : bnd head (arrowM T typ (tk T k).frm) k = bnd typ (fun b k' => .ok (.mk 17 kNo 0 [a, b] (tk T k).frm (lastK T k') (tk T k).frm, k')) (k1 + 1) := by
          rw [bnd_ok hp]; unfold arrowM; rw [if_pos hk1]
        refine (typed_yes h (hf k rfl) HH HT hp (hm _ _ _ hp) hk1).mono ?_
        rintro e w' ⟨x, he, hK, hS, hN⟩
        refine ⟨x, he, hK, ?_, fun j b k' hj hq => ?_⟩
        · simp only [nx] at hS ⊢
          rw [hE]
          unfold bnd
          cases h3 : typ (k1 + 1) with
          | error f => rw [h3] at hS; exact hS
          | ok p => rw [h3] at hS; exact hS
        · cases hj
          obtain ⟨b1, k3, h3, h4⟩ := bnd_inv (hE.symm.trans hq)
          cases h4
          exact hN b1 k' h3
/-- Types are read as the grammar says. -/
theorem typ_C : ∀ n, NodeC rb g cap T 131 #[.pointer (some ⟨rb, 0, none⟩)] (typM T n) n := by
  intro n
  induction n with
  | zero =>
    intro w σ h hf
    cases σ with
    | ok k => have h' : RS w rb g cap T k noFl := h; have := h'.hk; have := hf k rfl; omega
    | error f =>
      refine (typed_no (head := wrongM T) h hf (head_C0 1 (Or.inl rfl) (wrongM T)) rfl).mono ?_
      rintro e w' ⟨x, he, hK, hS, -⟩
      exact ⟨x, he, hK, hS, fun k a k' hk => by cases hk⟩
  | succ n ih =>
    have hS := small_C (T := T) (typ := typM T n) 1 (Or.inl rfl) (part_typed ih) (fun h => by omega) (typ_mono n)
    have hH := head_C (T := T) 1 (Or.inl rfl) hS (small_mono (typ_mono n) (typ_mono n) 1) (small_up 1)
    exact typed_C hH ih (head_mono (small_mono (typ_mono n) (typ_mono n) 1) 1)
end
end Go.Proofs.YtfflpeklkfjdnaaGreatDoor
