import Derived.Deep.RegionWith
import Derived.Test.YtfflpeklkfjdnaaGreatDoorKPure
import Derived.Test.YtfflpeklkfjdnaaGreatDoorKRq
set_option linter.unusedSimpArgs false
set_option linter.unusedVariables false
set_option linter.unusedSectionVars false
namespace Go.Proofs.YtfflpeklkfjdnaaGreatDoor
open Go Go.RowKit

theorem Bx.drew {w : World} {b : Nat} {C : Array Value} (h : Bx w b C) : Bx w.drew b C := h.below (Below.refl _ _).drew
theorem Ke.below {rb : Nat} {a b c : World} (h : Ke rb a b) (k : Below b.heap.size b c) : Ke rb a c := h.trans (Ke.of k)
/-- The seven stores of a node into a box of the call's own. -/
theorem Ke.set7 {rb : Nat} {a w : World} (h : Ke rb a w) {b : Nat} (hb : a.heap.size ≤ b) (v0 v1 v2 v3 v4 v5 v6 : Value) :
    Ke rb a (((((((w.setCell ⟨b, 0, none⟩ v0).setCell ⟨b, 1, none⟩ v1).setCell ⟨b, 2, none⟩ v2).setCell ⟨b, 3, none⟩ v3).setCell ⟨b, 4, none⟩ v4).setCell ⟨b, 5, none⟩ v5).setCell ⟨b, 6, none⟩ v6) :=
  ((((((h.setNew hb _ _).setNew hb _ _).setNew hb _ _).setNew hb _ _).setNew hb _ _).setNew hb _ _).setNew hb _ _
theorem SS.set7 {w : World} {rb g cap : Nat} {T : List Pu.Tok} {σ : St} (h : SS w rb g cap T σ) {b : Nat} (h1 : rb ≠ b) (h2 : g ≠ b) (v0 v1 v2 v3 v4 v5 v6 : Value) :
    SS (((((((w.setCell ⟨b, 0, none⟩ v0).setCell ⟨b, 1, none⟩ v1).setCell ⟨b, 2, none⟩ v2).setCell ⟨b, 3, none⟩ v3).setCell ⟨b, 4, none⟩ v4).setCell ⟨b, 5, none⟩ v5).setCell ⟨b, 6, none⟩ v6) rb g cap T σ :=
  ((((((h.set h1 h2 _ _).set h1 h2 _ _).set h1 h2 _ _).set h1 h2 _ _).set h1 h2 _ _).set h1 h2 _ _).set h1 h2 _ _
abbrev zNode : Array Value := #[.int .i64 0, .string ⟨#[]⟩, .int .i64 0, .slice none 0 0, .int .i64 0, .int .i64 0, .int .i64 0]
abbrev zTok : Array Value := #[.int .i64 0, .string ⟨#[]⟩, .int .i64 0, .int .i64 0]
abbrev tokC (t : Pu.Tok) : Array Value := #[.int .i64 (t.kind : Int), .string t.text, .int .i64 (t.frm : Int), .int .i64 (t.to : Int)]
section
variable {rb g cap : Nat} {T : List Pu.Tok} {σ : St} {w : World}

set_option maxRecDepth 100000 in
set_option maxHeartbeats 1000000 in
theorem small_bad {fl : Fl} (h : SS w rb g cap T (.error fl)) (sort : Nat) :
    Calls Tryz.prog 199 #[.pointer (some ⟨rb, 0, none⟩), .int .i64 (sort : Int)] w fun e w' => e = .returned NV.no.v ∧ Ke rb w w' ∧ SS w' rb g cap T (.error fl) := by
  have hr := h.hr
  have hg := h.hg
  have H0 := hide (h.alloc (.cells zNode 62))
  have B0 := hide (Bx.new w zNode 62)
  have K0 := hide ((Ke.refl rb w).alloc (.cells zNode 62))
  clear h
  go_enter Tryz.func199, Tryz.ntmps199
  go_wp2_with fail
  refine (next_S (unhide H0)).mono ?_
  rintro e w1 ⟨t, rfl, hb1, -⟩
  have H1 := hide (((unhide H0).below hb1).alloc (.cells (tokC t) 58))
  have B1 := hide (((unhide B0).below hb1).alloc (.cells (tokC t) 58))
  have K1 := hide (((unhide K0).below hb1).alloc (.cells (tokC t) 58))
  clear H0 B0 K0 hb1
  unfold tokV
  go_wp2_with fail
  refine (ok_S (unhide H1)).mono ?_
  rintro e w2 ⟨rfl, rfl⟩
  go_wp2_with fail
  refine (wrong_S (α := Unit) (unhide H1)).mono ?_
  rintro e w2 ⟨rfl, k2, H2⟩
  obtain ⟨c0, f0, z0⟩ := (unhide B1).ke k2 (by omega)
  have K2 := hide ((unhide K1).trans k2)
  have H2' := hide H2
  clear H1 B1 K1 k2 H2
  go_wp2_with fail
  refine bodyPost_ret (v := NV.no.v) (by simp [results, Tryz.results199, go_sem, c0, z0, NV.no, NV.v]; try rfl) rfl ⟨rfl, ?_, ?_⟩
  · exact (unhide K2).set7 (Nat.le_refl _) _ _ _ _ _ _ _
  · exact (unhide H2').set7 (by omega) (by omega) _ _ _ _ _ _ _

set_option maxRecDepth 100000 in
set_option maxHeartbeats 1000000 in
theorem small_no {k : Nat} (h : SS w rb g cap T (.ok k)) (sort : Nat) (hs : sort = 1 ∨ sort = 2 ∨ sort = 3) (hb : beginsB (tk T k) sort = false) :
    Calls Tryz.prog 199 #[.pointer (some ⟨rb, 0, none⟩), .int .i64 (sort : Int)] w fun e w' => e = .returned NV.no.v ∧ Ke rb w w' ∧ SS w' rb g cap T (.error (flOf (tk T k))) := by
  have hr := h.hr
  have hg := h.hg
  have H0 := hide (h.alloc (.cells zNode 62))
  have B0 := hide (Bx.new w zNode 62)
  have K0 := hide ((Ke.refl rb w).alloc (.cells zNode 62))
  clear h
  go_enter Tryz.func199, Tryz.ntmps199
  go_wp2_with fail
  refine (next_S (unhide H0)).mono ?_
  rintro e w1 ⟨t, rfl, hb1, ht⟩
  have ht' := ht k rfl
  subst ht'
  clear ht
  have H1 := hide (((unhide H0).below hb1).alloc (.cells (tokC (tk T k)) 58))
  have B1 := hide (((unhide B0).below hb1).alloc (.cells (tokC (tk T k)) 58))
  have K1 := hide (((unhide K0).below hb1).alloc (.cells (tokC (tk T k)) 58))
  clear H0 B0 K0 hb1
  unfold tokV
  go_wp2_with fail
  refine (ok_S (unhide H1)).mono ?_
  rintro e w2 ⟨rfl, rfl⟩
  go_wp2_with fail
  refine (begins_any (tk T k) _ sort hs).mono ?_
  rintro e w3 ⟨rfl, hb3⟩
  have H3 := hide ((unhide H1).below hb3)
  have B3 := hide ((unhide B1).below hb3)
  have K3 := hide ((unhide K1).below hb3)
  clear H1 B1 K1 hb3
  go_wp2_with fail
  refine (wrong_S (α := Unit) (unhide H3)).mono ?_
  rintro e w4 ⟨rfl, k2, H2⟩
  obtain ⟨c0, f0, z0⟩ := (unhide B3).ke k2 (by omega)
  have K2 := hide ((unhide K3).trans k2)
  have H2' := hide H2
  clear H3 B3 K3 k2 H2
  go_wp2_with fail
  refine bodyPost_ret (v := NV.no.v) (by simp [results, Tryz.results199, go_sem, c0, z0, NV.no, NV.v]; try rfl) rfl ⟨rfl, ?_, ?_⟩
  · exact (unhide K2).set7 (Nat.le_refl _) _ _ _ _ _ _ _
  · exact (unhide H2').set7 (by omega) (by omega) _ _ _ _ _ _ _

set_option maxRecDepth 100000 in
set_option maxHeartbeats 1000000 in
theorem small_leaf {k : Nat} (h : SS w rb g cap T (.ok k)) (sort : Nat) (hs : sort = 1 ∨ sort = 2 ∨ sort = 3) (hb : beginsB (tk T k) sort = true) (ho : isT (tk T k) kOpen = false) :
    Calls Tryz.prog 199 #[.pointer (some ⟨rb, 0, none⟩), .int .i64 (sort : Int)] w fun e w' => e = .returned (leafV (tk T k)) ∧ Ke rb w w' ∧ SS w' rb g cap T (.ok (k + 1)) := by
  have ho' : ((tk T k).kind = 5 ∧ ((tk T k).text.toList == [40]) = false) ∨ (tk T k).kind ≠ 5 := by
    rw [isT_open] at ho
    by_cases q : (tk T k).kind = 5
    · simp [q] at ho; exact Or.inl ⟨q, by simpa using ho⟩
    · exact Or.inr q
  have h7 : (tk T k).kind ≠ 7 := by
    intro e
    simp [beginsB, isT, leafK, e] at hb
  have hr := h.hr
  have hg := h.hg
  have H0 := hide (h.alloc (.cells zNode 62))
  have B0 := hide (Bx.new w zNode 62)
  have K0 := hide ((Ke.refl rb w).alloc (.cells zNode 62))
  clear h ho
  go_enter Tryz.func199, Tryz.ntmps199
  go_wp2_with fail
  refine (next_S (unhide H0)).mono ?_
  rintro e w1 ⟨t, rfl, hb1, ht⟩
  have ht' := ht k rfl
  subst ht'
  clear ht
  have H1 := hide (((unhide H0).below hb1).alloc (.cells (tokC (tk T k)) 58))
  have B1 := hide (((unhide B0).below hb1).alloc (.cells (tokC (tk T k)) 58))
  have K1 := hide (((unhide K0).below hb1).alloc (.cells (tokC (tk T k)) 58))
  have D1 := hide (Bx.new w1 (tokC (tk T k)) 58)
  have hz1 : w.heap.size < w1.heap.size := by have := hb1.size; simp at this; omega
  clear H0 B0 K0 hb1
  unfold tokV
  go_wp2_with fail
  refine (ok_S (unhide H1)).mono ?_
  rintro e w2 ⟨rfl, rfl⟩
  go_wp2_with fail
  refine (begins_any (tk T k) _ sort hs).mono ?_
  rintro e w3 ⟨rfl, hb3⟩
  have H3 := hide ((unhide H1).below hb3)
  have B3 := hide ((unhide B1).below hb3)
  have K3 := hide ((unhide K1).below hb3)
  have D3 := hide ((unhide D1).below hb3)
  clear H1 B1 K1 D1 hb3
  go_wp2_with fail
  refine (pass_S (unhide H3) h7).mono ?_
  rintro e w4 ⟨rfl, k4, H4⟩
  have B4 := hide ((unhide B3).ke k4 (by omega))
  have K4 := hide ((unhide K3).trans k4)
  obtain ⟨d0, e0, y0⟩ := (unhide D3).ke k4 (by omega)
  have H4' := hide H4
  clear H3 B3 K3 D3 k4 H4
  rcases ho' with ⟨q5, q⟩ | q5
  · have e5 : (((tk T k).kind : Int) != 5) = false := by rw [q5]; rfl
    clear q5
    go_wp2_with fail
    refine (leaf_any (tk T k) _).mono ?_
    rintro e w5 ⟨rfl, hb5⟩
    obtain ⟨c0, f0, z0⟩ := (unhide B4).below hb5
    have K5 := hide ((unhide K4).below hb5)
    have H5 := hide ((unhide H4').below hb5)
    clear B4 K4 H4' hb5 d0 e0 y0
    unfold leafV nodeV
    go_wp2_with fail
    refine bodyPost_ret (v := leafV (tk T k)) (by simp [results, Tryz.results199, go_sem, c0, z0, leafV, nodeV]; try rfl) rfl ⟨rfl, ?_, ?_⟩
    · exact (unhide K5).set7 (Nat.le_refl _) _ _ _ _ _ _ _
    · exact (unhide H5).set7 (by omega) (by omega) _ _ _ _ _ _ _
  · have e5 : (((tk T k).kind : Int) != 5) = true := by simp; omega
    clear q5
    go_wp2_with fail
    refine (leaf_any (tk T k) _).mono ?_
    rintro e w5 ⟨rfl, hb5⟩
    obtain ⟨c0, f0, z0⟩ := (unhide B4).below hb5
    have K5 := hide ((unhide K4).below hb5)
    have H5 := hide ((unhide H4').below hb5)
    clear B4 K4 H4' hb5 d0 e0 y0
    unfold leafV nodeV
    go_wp2_with fail
    refine bodyPost_ret (v := leafV (tk T k)) (by simp [results, Tryz.results199, go_sem, c0, z0, leafV, nodeV]; try rfl) rfl ⟨rfl, ?_, ?_⟩
    · exact (unhide K5).set7 (Nat.le_refl _) _ _ _ _ _ _ _
    · exact (unhide H5).set7 (by omega) (by omega) _ _ _ _ _ _ _
end
end Go.Proofs.YtfflpeklkfjdnaaGreatDoor
namespace Go.Proofs.YtfflpeklkfjdnaaGreatDoor
open Go Go.RowKit
section
variable {rb g cap : Nat} {T : List Pu.Tok} {σ : St} {w : World}

theorem isT_kind {t : Pu.Tok} {s : ByteArray} (h : isT t s = true) : t.kind = 5 := by simp [isT] at h; exact h.1

set_option maxRecDepth 100000 in
set_option maxHeartbeats 1000000 in
theorem small_unit {k : Nat} (h : SS w rb g cap T (.ok k)) (sort : Nat) (hs : sort = 2 ∨ sort = 3) (ho : isT (tk T k) kOpen = true) (hc : isT (tk T (k + 1)) kClose = true) :
    Calls Tryz.prog 199 #[.pointer (some ⟨rb, 0, none⟩), .int .i64 (sort : Int)] w fun e w' => e = .returned (nodeV 5 kNo 0 (.slice none 0 0) ((tk T k).frm : Int) (lastK T (k + 2) : Int) ((tk T k).frm : Int)) ∧ Ke rb w w' ∧ SS w' rb g cap T (.ok (k + 2)) := by
  have hb : beginsB (tk T k) sort = true := by unfold beginsB; rw [ho]; rfl
  obtain ⟨q5, q⟩ : (tk T k).kind = 5 ∧ ((tk T k).text.toList == [40]) = true := by rw [isT_open] at ho; simpa using ho
  have h7 : (tk T k).kind ≠ 7 := by omega
  have h7' : (tk T (k + 1)).kind ≠ 7 := by have := isT_kind hc; omega
  have s1 : ((sort : Int) != 1) = true := by simp; omega
  have e5 : (((tk T k).kind : Int) != 5) = false := by rw [q5]; rfl
  have hC : isS T (.ok (k + 1)) kClose = true := hc
  have hr := h.hr
  have hg := h.hg
  have H0 := hide (h.alloc (.cells zNode 62))
  have B0 := hide (Bx.new w zNode 62)
  have K0 := hide ((Ke.refl rb w).alloc (.cells zNode 62))
  clear h ho q5 hc
  go_enter Tryz.func199, Tryz.ntmps199
  go_wp2_with fail
  refine (next_S (unhide H0)).mono ?_
  rintro e w1 ⟨t, rfl, hb1, ht⟩
  have ht' := ht k rfl
  subst ht'
  clear ht
  have H1 := hide (((unhide H0).below hb1).alloc (.cells (tokC (tk T k)) 58))
  have B1 := hide (((unhide B0).below hb1).alloc (.cells (tokC (tk T k)) 58))
  have K1 := hide (((unhide K0).below hb1).alloc (.cells (tokC (tk T k)) 58))
  have D1 := hide (Bx.new w1 (tokC (tk T k)) 58)
  have hz1 : w.heap.size < w1.heap.size := by have := hb1.size; simp at this; omega
  clear H0 B0 K0 hb1
  unfold tokV
  go_wp2_with fail
  refine (ok_S (unhide H1)).mono ?_
  rintro e w2 ⟨rfl, rfl⟩
  go_wp2_with fail
  refine (begins_any (tk T k) _ sort (by omega)).mono ?_
  rintro e w3 ⟨rfl, hb3⟩
  have H3 := hide ((unhide H1).below hb3)
  have B3 := hide ((unhide B1).below hb3)
  have K3 := hide ((unhide K1).below hb3)
  have D3 := hide ((unhide D1).below hb3)
  clear H1 B1 K1 D1 hb3
  go_wp2_with fail
  refine (pass_S (unhide H3) h7).mono ?_
  rintro e w4 ⟨rfl, k4, H4⟩
  have B4 := hide ((unhide B3).ke k4 (by omega))
  have K4 := hide ((unhide K3).trans k4)
  have D4 := hide ((unhide D3).ke k4 (by omega))
  obtain ⟨d0, e0, y0⟩ := unhide D4
  have H4' := hide H4
  clear H3 B3 K3 D3 k4 H4
  go_wp2_with fail
  refine (is_S (unhide H4') kClose).mono ?_
  rintro e w5 ⟨rfl, hb5⟩
  have H5 := hide ((unhide H4').below hb5)
  have B5 := hide ((unhide B4).below hb5)
  have K5 := hide ((unhide K4).below hb5)
  have D5 := hide ((unhide D4).below hb5)
  clear H4' B4 K4 D4 hb5 d0 e0 y0
  go_wp2_with fail
  refine (pass_S (unhide H5) h7').mono ?_
  rintro e w6 ⟨rfl, k6, H6⟩
  have B6 := hide ((unhide B5).ke k6 (by omega))
  have K6 := hide ((unhide K5).trans k6)
  have D6 := hide ((unhide D5).ke k6 (by omega))
  obtain ⟨d0, e0, y0⟩ := unhide D6
  obtain ⟨c0, f0, z0⟩ := unhide B6
  have H6' := hide H6
  clear H5 B5 K5 D5 k6 H6
  go_wp2_with fail
  go_region_with (go_at_call 202; refine (last_S (unhide H6').drew).mono ?_; rintro e w7 ⟨n, rfl, hb7, hn⟩; obtain ⟨d7, e7, y7⟩ := (unhide D6).drew.below hb7; obtain ⟨c7, f7, z7⟩ := (unhide B6).drew.below hb7)
  all_goals
    have hn' := hn _ rfl
    subst hn'
    have K7 := hide ((unhide K6).drew.below hb7)
    have H7 := hide ((unhide H6').drew.below hb7)
    clear hn hb7 K6 H6' D6 B6
    go_wp2_with fail
    refine bodyPost_ret (v := nodeV 5 kNo 0 (.slice none 0 0) ((tk T k).frm : Int) (lastK T (k + 1 + 1) : Int) ((tk T k).frm : Int)) (by simp [results, Tryz.results199, go_sem, c7, z7, nodeV]; try rfl) rfl ⟨rfl, ?_, ?_⟩
    · exact (unhide K7).set7 (Nat.le_refl _) _ _ _ _ _ _ _
    · exact (unhide H7).set7 (by omega) (by omega) _ _ _ _ _ _ _
end
end Go.Proofs.YtfflpeklkfjdnaaGreatDoor
namespace Go.Proofs.YtfflpeklkfjdnaaGreatDoor
open Go Go.RowKit

theorem Bx.at (w : World) (C : Array Value) (t : TypeId) (b : Nat) (hb : b = w.heap.size) : Bx (w.alloc (.cells C t)) b C := by subst hb; exact Bx.new w C t
theorem Bx.setS {w : World} {b : Nat} {C : Array Value} (h : Bx w b C) (j : Nat) (v : Value) (C' : Array Value) (hC : C' = C.setIfInBounds j v) (hj : j < C.size) : Bx (w.setCell ⟨b, j, none⟩ v) b C' := by
  subst hC
  refine ⟨fun o => ?_, fun o => by simp; exact h.f o, by simpa [World.setCell] using h.z⟩
  by_cases e : o = j
  · subst e
    rw [World.cell?_setCell_same _ _ _ ((h.c o).trans (Array.getElem?_eq_getElem hj))]
    simp [hj]
  · rw [World.cell?_setCell_other _ _ _ _ (by intro q; injection q with _ q; exact e q.symm), h.c o, Array.getElem?_setIfInBounds_ne (by omega)]
theorem Bx.setO {w : World} {b b2 : Nat} {C : Array Value} (h : Bx w b C) (hn : b ≠ b2) (j : Nat) (v : Value) : Bx (w.setCell ⟨b2, j, none⟩ v) b C :=
  h.same (by simp [World.setCell]) (Below.heap_setCell _ _ _ _ hn)
theorem NR.set {w : World} {P : Nat → Prop} {nd : Nd} {x : NV} (h : NR w P nd x) {b2 : Nat} (hn : ∀ b, P b → b < w.heap.size → b ≠ b2) (j : Nat) (v : Value) : NR (w.setCell ⟨b2, j, none⟩ v) P nd x :=
  h.move (by simp [World.setCell]) (fun b p hz => Below.heap_setCell _ _ _ _ (hn b p hz)) (fun _ p _ => p)

theorem NR.rng {w : World} {P : Nat → Prop} {nd : Nd} {x : NV} (h : NR w P nd x) (lo : Nat) (hq : ∀ b, P b → lo ≤ b) : NR w (fun b => lo ≤ b ∧ b < w.heap.size) nd x :=
  h.move (Nat.le_refl _) (fun _ _ _ => rfl) (fun b p hz => ⟨hq b p, hz⟩)
theorem NR.wide {w : World} {P : Nat → Prop} {nd : Nd} {x : NV} (h : NR w P nd x) (lo : Nat) (hq : ∀ b, P b → lo ≤ b) : NR w (fun b => lo ≤ b) nd x :=
  h.move (Nat.le_refl _) (fun _ _ _ => rfl) (fun b p _ => hq b p)
/-- A node whose parts lie in a block of the call's own. -/
theorem NR.ofBx {w : World} {P : Nat → Prop} (k : Nat) (s : ByteArray) (n : Nat) (f t a : Nat) (L : List Nd) (xs : List NV) (h0 : L ≠ []) (hl : xs.length = L.length) {g : Nat} {C : Array Value} (hB : Bx w g C) (hC : C = (flat xs).toArray)
    (hr : ∀ i (h : i < L.length), NR w P L[i] (xs[i]'(by omega))) (hP : P g) (cap : Nat) :
    NR w P (.mk k s n L f t a) ⟨k, s, n, some ⟨g, 0, none⟩, L.length, cap, f, t, a⟩ := by
  subst hC
  have hx : ∀ i (h : i < L.length), xs.getD i NV.no = xs[i]'(by omega) := fun i h => by rw [List.getD_eq_getElem?_getD, List.getElem?_eq_getElem (by omega)]; rfl
  refine .row k s n L f t a g cap (fun i => xs.getD i NV.no) h0 hP hB.z (fun i hi j hj => ?_) (fun i hi => ?_)
  · rw [hx i hi, hB.c, ← flat_at xs i j (by omega) hj]
    simp
  · rw [hx i hi]
    exact hr i hi
theorem NR.two {w : World} {P : Nat → Prop} (k : Nat) (s : ByteArray) (n : Nat) (f t a : Nat) {u v : Nd} {x y : NV} {g : Nat} {C : Array Value} (hB : Bx w g C) (hC : C = (flat [x, y]).toArray) (hu : NR w P u x) (hv : NR w P v y) (hP : P g) (cap : Nat) :
    NR w P (.mk k s n [u, v] f t a) ⟨k, s, n, some ⟨g, 0, none⟩, 2, cap, f, t, a⟩ :=
  NR.ofBx k s n f t a [u, v] [x, y] (by simp) rfl hB hC (fun i hi => by
    match i, hi with
    | 0, _ => exact hu
    | 1, _ => exact hv) hP cap
abbrev nvA (x : NV) : Array Value := #[.int .i64 x.k, .string x.s, .int .i64 x.n, .slice x.la x.ll x.lc, .int .i64 x.f, .int .i64 x.t, .int .i64 x.a]
abbrev nvB (x y : NV) : Array Value := #[.int .i64 x.k, .string x.s, .int .i64 x.n, .slice x.la x.ll x.lc, .int .i64 x.f, .int .i64 x.t, .int .i64 x.a, .int .i64 y.k, .string y.s, .int .i64 y.n, .slice y.la y.ll y.lc, .int .i64 y.f, .int .i64 y.t, .int .i64 y.a]
abbrev nvT (x y z : NV) : Array Value := #[.int .i64 x.k, .string x.s, .int .i64 x.n, .slice x.la x.ll x.lc, .int .i64 x.f, .int .i64 x.t, .int .i64 x.a, .int .i64 y.k, .string y.s, .int .i64 y.n, .slice y.la y.ll y.lc, .int .i64 y.f, .int .i64 y.t, .int .i64 y.a, .int .i64 z.k, .string z.s, .int .i64 z.n, .slice z.la z.ll z.lc, .int .i64 z.f, .int .i64 z.t, .int .i64 z.a]
theorem Bx.set7 {w : World} {b : Nat} {C : Array Value} (h : Bx w b C) (hC : C.size = 7) (v0 v1 v2 v3 v4 v5 v6 : Value) : Bx (((((((w.setCell ⟨b, 0, none⟩ v0).setCell ⟨b, 1, none⟩ v1).setCell ⟨b, 2, none⟩ v2).setCell ⟨b, 3, none⟩ v3).setCell ⟨b, 4, none⟩ v4).setCell ⟨b, 5, none⟩ v5).setCell ⟨b, 6, none⟩ v6) b #[v0, v1, v2, v3, v4, v5, v6] := by
  obtain ⟨a0, a1, a2, a3, a4, a5, a6, rfl⟩ : ∃ a0 a1 a2 a3 a4 a5 a6, C = #[a0, a1, a2, a3, a4, a5, a6] := by
    obtain ⟨l⟩ := C
    match l, hC with
    | [a, b, c, d, e, f, g], _ => exact ⟨a, b, c, d, e, f, g, rfl⟩
  exact ((((((h.setS 0 v0 #[v0, a1, a2, a3, a4, a5, a6] rfl (by simp)).setS 1 v1 #[v0, v1, a2, a3, a4, a5, a6] rfl (by simp)).setS 2 v2 #[v0, v1, v2, a3, a4, a5, a6] rfl (by simp)).setS 3 v3 #[v0, v1, v2, v3, a4, a5, a6] rfl (by simp)).setS 4 v4 #[v0, v1, v2, v3, v4, a5, a6] rfl (by simp)).setS 5 v5 #[v0, v1, v2, v3, v4, v5, a6] rfl (by simp)).setS 6 v6 #[v0, v1, v2, v3, v4, v5, v6] rfl (by simp)
theorem Bx.setO7 {w : World} {b' b : Nat} {C : Array Value} (h : Bx w b' C) (hn : b' ≠ b) (v0 v1 v2 v3 v4 v5 v6 : Value) : Bx (((((((w.setCell ⟨b, 0, none⟩ v0).setCell ⟨b, 1, none⟩ v1).setCell ⟨b, 2, none⟩ v2).setCell ⟨b, 3, none⟩ v3).setCell ⟨b, 4, none⟩ v4).setCell ⟨b, 5, none⟩ v5).setCell ⟨b, 6, none⟩ v6) b' C :=
  ((((((h.setO hn 0 v0).setO hn 1 v1).setO hn 2 v2).setO hn 3 v3).setO hn 4 v4).setO hn 5 v5).setO hn 6 v6
theorem NRset7 {w : World} {P : Nat → Prop} {nd : Nd} {x : NV} (h : NR w P nd x) {b2 : Nat} (hn : ∀ b, P b → True → b ≠ b2) (v0 v1 v2 v3 v4 v5 v6 : Value) :
    NR (((((((w.setCell ⟨b2, 0, none⟩ v0).setCell ⟨b2, 1, none⟩ v1).setCell ⟨b2, 2, none⟩ v2).setCell ⟨b2, 3, none⟩ v3).setCell ⟨b2, 4, none⟩ v4).setCell ⟨b2, 5, none⟩ v5).setCell ⟨b2, 6, none⟩ v6) P nd x :=
  ((((((h.set (fun b p _ => hn b p trivial) _ _).set (fun b p _ => hn b p trivial) _ _).set (fun b p _ => hn b p trivial) _ _).set (fun b p _ => hn b p trivial) _ _).set (fun b p _ => hn b p trivial) _ _).set (fun b p _ => hn b p trivial) _ _).set (fun b p _ => hn b p trivial) _ _
theorem SS.st7 {w : World} {rb g cap : Nat} {T : List Pu.Tok} {σ : St} (h : SS w rb g cap T σ) {b : Nat} (h1 : rb ≠ b) (h2 : g ≠ b) (x : NV) : SS (((((((w.setCell ⟨b, 0, none⟩ (.int .i64 x.k)).setCell ⟨b, 1, none⟩ (.string x.s)).setCell ⟨b, 2, none⟩ (.int .i64 x.n)).setCell ⟨b, 3, none⟩ (.slice x.la x.ll x.lc)).setCell ⟨b, 4, none⟩ (.int .i64 x.f)).setCell ⟨b, 5, none⟩ (.int .i64 x.t)).setCell ⟨b, 6, none⟩ (.int .i64 x.a)) rb g cap T σ := h.set7 h1 h2 _ _ _ _ _ _ _
theorem Ke.st7 {rb : Nat} {a w : World} (h : Ke rb a w) {b : Nat} (hb : a.heap.size ≤ b) (x : NV) : Ke rb a (((((((w.setCell ⟨b, 0, none⟩ (.int .i64 x.k)).setCell ⟨b, 1, none⟩ (.string x.s)).setCell ⟨b, 2, none⟩ (.int .i64 x.n)).setCell ⟨b, 3, none⟩ (.slice x.la x.ll x.lc)).setCell ⟨b, 4, none⟩ (.int .i64 x.f)).setCell ⟨b, 5, none⟩ (.int .i64 x.t)).setCell ⟨b, 6, none⟩ (.int .i64 x.a)) := h.set7 hb _ _ _ _ _ _ _
theorem Bx.st7 {w : World} {b : Nat} {C : Array Value} (h : Bx w b C) (hC : C.size = 7) (x : NV) : Bx (((((((w.setCell ⟨b, 0, none⟩ (.int .i64 x.k)).setCell ⟨b, 1, none⟩ (.string x.s)).setCell ⟨b, 2, none⟩ (.int .i64 x.n)).setCell ⟨b, 3, none⟩ (.slice x.la x.ll x.lc)).setCell ⟨b, 4, none⟩ (.int .i64 x.f)).setCell ⟨b, 5, none⟩ (.int .i64 x.t)).setCell ⟨b, 6, none⟩ (.int .i64 x.a)) b (nvA x) := h.set7 hC _ _ _ _ _ _ _
theorem Bx.stO7 {w : World} {b' b : Nat} {C : Array Value} (h : Bx w b' C) (hn : b' ≠ b) (x : NV) : Bx (((((((w.setCell ⟨b, 0, none⟩ (.int .i64 x.k)).setCell ⟨b, 1, none⟩ (.string x.s)).setCell ⟨b, 2, none⟩ (.int .i64 x.n)).setCell ⟨b, 3, none⟩ (.slice x.la x.ll x.lc)).setCell ⟨b, 4, none⟩ (.int .i64 x.f)).setCell ⟨b, 5, none⟩ (.int .i64 x.t)).setCell ⟨b, 6, none⟩ (.int .i64 x.a)) b' C := h.setO7 hn _ _ _ _ _ _ _
theorem NRst7 {w : World} {P : Nat → Prop} {nd : Nd} {y : NV} (h : NR w P nd y) {b2 : Nat} (hn : ∀ b, P b → True → b ≠ b2) (x : NV) : NR (((((((w.setCell ⟨b2, 0, none⟩ (.int .i64 x.k)).setCell ⟨b2, 1, none⟩ (.string x.s)).setCell ⟨b2, 2, none⟩ (.int .i64 x.n)).setCell ⟨b2, 3, none⟩ (.slice x.la x.ll x.lc)).setCell ⟨b2, 4, none⟩ (.int .i64 x.f)).setCell ⟨b2, 5, none⟩ (.int .i64 x.t)).setCell ⟨b2, 6, none⟩ (.int .i64 x.a)) P nd y := NRset7 h hn _ _ _ _ _ _ _
/-- What a function of the reader promises that reads a part. -/
def NodeC (rb g cap : Nat) (T : List Pu.Tok) (F : FuncId) (args : Array Value) (m : M Nd) (n : Nat) : Prop :=
  ∀ (w : World) (σ : St), SS w rb g cap T σ → (∀ k, σ = .ok k → T.length ≤ k + n) →
    Calls Tryz.prog F args w fun e w' => ∃ x : NV, e = .returned x.v ∧ Ke rb w w' ∧ SS w' rb g cap T (nx σ m) ∧ ∀ k a k', σ = .ok k → m k = .ok (a, k') → NR w' (fun b => w.heap.size ≤ b) a x
theorem nx_ok {α : Type} {m : M α} {k k' : Nat} {a : α} (h : m k = .ok (a, k')) : nx (.ok k) m = .ok k' := by
  simp only [nx, h]
theorem nx_err {α : Type} {m : M α} {k : Nat} {e : Fl} (h : m k = .error e) : nx (.ok k) m = .error e := by
  simp only [nx, h]
/-- It goes on from where it stood. -/
def Mono {α : Type} (m : M α) : Prop := ∀ k a k', m k = .ok (a, k') → k ≤ k'
end Go.Proofs.YtfflpeklkfjdnaaGreatDoor
namespace Go.Proofs.YtfflpeklkfjdnaaGreatDoor
open Go Go.RowKit
section
variable {rb g cap : Nat} {T : List Pu.Tok} {σ : St} {w : World}

set_option maxRecDepth 100000 in
set_option maxHeartbeats 4000000 in
theorem small_pair {k n : Nat} {part : M Nd} (h : SS w rb g cap T (.ok k)) (sort : Nat) (hs : sort = 2 ∨ sort = 3) (hf : T.length ≤ k + (n + 1)) (ho : isT (tk T k) kOpen = true) (hc : isT (tk T (k + 1)) kClose = false)
    (HP : NodeC rb g cap T 301 #[.pointer (some ⟨rb, 0, none⟩), .int .i64 (sort : Int)] part n) (hm : Mono part) {a : Nd} {k2 : Nat} (hp : part (k + 1) = .ok (a, k2)) (hk : isT (tk T k2) kComma = true) :
    Calls Tryz.prog 199 #[.pointer (some ⟨rb, 0, none⟩), .int .i64 (sort : Int)] w fun e w' => ∃ x : NV, e = .returned x.v ∧ Ke rb w w' ∧ SS w' rb g cap T (nx (nx (.ok (k2 + 1)) part) (wantM T kClose)) ∧
      ∀ b k3 k4, part (k2 + 1) = .ok (b, k3) → wantM T kClose k3 = .ok ((), k4) → NR w' (fun b => w.heap.size ≤ b) (.mk 6 kNo 0 [a, b] (tk T k).frm (lastK T k4) (tk T k).frm) x := by
  have hb : beginsB (tk T k) sort = true := by unfold beginsB; rw [ho]; rfl
  obtain ⟨q5, q⟩ : (tk T k).kind = 5 ∧ ((tk T k).text.toList == [40]) = true := by rw [isT_open] at ho; simpa using ho
  have h7 : (tk T k).kind ≠ 7 := by omega
  have e5 : (((tk T k).kind : Int) != 5) = false := by rw [q5]; rfl
  have hs3 : sort = 1 ∨ sort = 2 ∨ sort = 3 := by omega
  have s1 : ((sort : Int) != 1) = true := by simp; omega
  have hC : isS T (.ok (k + 1)) kClose = false := hc
  have h7' : (tk T k2).kind ≠ 7 := by have := isT_kind hk; omega
  have hD : isS T (.ok k2) kComma = true := hk
  have hk2 := hm _ _ _ hp
  have HP' := hide HP
  have hp' := hide hp
  clear ho q5 hc hk HP hp hm hs
  have hr := h.hr
  have hg := h.hg
  have H1 := hide h
  have K2 := hide (Ke.refl rb w)
  clear h
  go_enter Tryz.func199, Tryz.ntmps199
  go_wp2_with fail
  have H3 := hide ((unhide H1).alloc (.cells zNode 62))
  have K4 := hide ((unhide K2).alloc (.cells zNode 62))
  have B5 := hide (Bx.at w zNode 62 (w.heap.size) (by simp [World.setCell]))
  clear H1 K2
  refine (next_S (unhide H3)).mono ?_
  rintro e w1 ⟨t, rfl, hb, ht⟩
  have H6 := hide ((unhide H3).below hb)
  have K7 := hide ((unhide K4).below hb)
  have z8 := hb.size
  try simp [World.setCell] at z8
  have B9 := hide ((unhide B5).below hb)
  clear H3 K4 B5 hb
  obtain ⟨c10, f11, y12⟩ := unhide B9
  have ht' := ht k rfl
  subst ht'
  clear ht
  unfold tokV
  go_wp2_with fail
  have H13 := hide ((unhide H6).alloc (.cells #[.int .i64 ((tk T k).kind : Int), .string (tk T k).text, .int .i64 ((tk T k).frm : Int), .int .i64 ((tk T k).to : Int)] 58))
  have K14 := hide ((unhide K7).alloc (.cells #[.int .i64 ((tk T k).kind : Int), .string (tk T k).text, .int .i64 ((tk T k).frm : Int), .int .i64 ((tk T k).to : Int)] 58))
  have B15 := hide ((unhide B9).alloc (.cells #[.int .i64 ((tk T k).kind : Int), .string (tk T k).text, .int .i64 ((tk T k).frm : Int), .int .i64 ((tk T k).to : Int)] 58))
  have B16 := hide (Bx.at w1 #[.int .i64 ((tk T k).kind : Int), .string (tk T k).text, .int .i64 ((tk T k).frm : Int), .int .i64 ((tk T k).to : Int)] 58 (w1.heap.size) (by simp [World.setCell]))
  clear H6 K7 B9 c10 f11 y12
  refine (ok_S (unhide H13)).mono ?_
  rintro e w2 ⟨rfl, rfl⟩
  go_wp2_with fail
  refine (begins_any (tk T k) _ sort hs3).mono ?_
  rintro e w3 ⟨rfl, hb⟩
  have H17 := hide ((unhide H13).below hb)
  have K18 := hide ((unhide K14).below hb)
  have z19 := hb.size
  try simp [World.setCell] at z19
  have B20 := hide ((unhide B15).below hb)
  have B21 := hide ((unhide B16).below hb)
  clear H13 K14 B15 B16 hb
  obtain ⟨c22, f23, y24⟩ := unhide B20
  obtain ⟨c25, f26, y27⟩ := unhide B21
  go_wp2_with fail
  clear c22 f23 y24 c25 f26 y27
  refine (pass_S (unhide H17) h7).mono ?_
  rintro e w4 ⟨rfl, hb, hS⟩
  have H32 := hide hS
  have K33 := hide ((unhide K18).trans hb)
  have z34 := hb.size
  try simp [World.setCell] at z34
  have B35 := hide ((unhide B20).ke hb (by omega))
  have B36 := hide ((unhide B21).ke hb (by omega))
  clear H17 K18 B20 B21 hb hS
  obtain ⟨c37, f38, y39⟩ := unhide B35
  obtain ⟨c40, f41, y42⟩ := unhide B36
  go_wp2_with fail
  clear c37 f38 y39 c40 f41 y42
  refine (is_S (unhide H32) kClose).mono ?_
  rintro e w5 ⟨rfl, hb⟩
  have H47 := hide ((unhide H32).below hb)
  have K48 := hide ((unhide K33).below hb)
  have z49 := hb.size
  try simp [World.setCell] at z49
  have B50 := hide ((unhide B35).below hb)
  have B51 := hide ((unhide B36).below hb)
  clear H32 K33 B35 B36 hb
  obtain ⟨c52, f53, y54⟩ := unhide B50
  obtain ⟨c55, f56, y57⟩ := unhide B51
  go_wp2_with fail
  clear c52 f53 y54 c55 f56 y57
  refine (unhide HP' _ _ (unhide H47) (by intro j hj; cases hj; omega)).mono ?_
  rintro e w6 ⟨x, rfl, hb, hS, hN⟩
  have H62 := hide hS
  have K63 := hide ((unhide K48).trans hb)
  have z64 := hb.size
  try simp [World.setCell] at z64
  have B65 := hide ((unhide B50).ke hb (by omega))
  have B66 := hide ((unhide B51).ke hb (by omega))
  clear H47 K48 B50 B51 hb hS
  obtain ⟨c67, f68, y69⟩ := unhide B65
  obtain ⟨c70, f71, y72⟩ := unhide B66
  have hN1 := hide ((hN _ _ _ rfl (unhide hp')).rng w5.heap.size (fun b hb => by simpa using hb))
  clear hN
  rw [nx_ok (unhide hp')] at H62
  unfold NV.v
  go_wp2_with fail
  have H73 := hide (((unhide H62).alloc (.cells (nvA x) 62)).alloc (.cells #[.int .i64 0, .string ⟨#[]⟩, .int .i64 0, .slice none 0 0, .int .i64 ((tk T k).frm : Int), .int .i64 0, .int .i64 ((tk T k).frm : Int)] 62))
  have K74 := hide (((unhide K63).alloc (.cells (nvA x) 62)).alloc (.cells #[.int .i64 0, .string ⟨#[]⟩, .int .i64 0, .slice none 0 0, .int .i64 ((tk T k).frm : Int), .int .i64 0, .int .i64 ((tk T k).frm : Int)] 62))
  have B75 := hide (((unhide B65).alloc (.cells (nvA x) 62)).alloc (.cells #[.int .i64 0, .string ⟨#[]⟩, .int .i64 0, .slice none 0 0, .int .i64 ((tk T k).frm : Int), .int .i64 0, .int .i64 ((tk T k).frm : Int)] 62))
  have B76 := hide (((unhide B66).alloc (.cells (nvA x) 62)).alloc (.cells #[.int .i64 0, .string ⟨#[]⟩, .int .i64 0, .slice none 0 0, .int .i64 ((tk T k).frm : Int), .int .i64 0, .int .i64 ((tk T k).frm : Int)] 62))
  have B77 := hide ((Bx.at w6 (nvA x) 62 (w6.heap.size) (by simp [World.setCell])).alloc (.cells #[.int .i64 0, .string ⟨#[]⟩, .int .i64 0, .slice none 0 0, .int .i64 ((tk T k).frm : Int), .int .i64 0, .int .i64 ((tk T k).frm : Int)] 62))
  have B78 := hide (Bx.at (w6.alloc (.cells (nvA x) 62)) #[.int .i64 0, .string ⟨#[]⟩, .int .i64 0, .slice none 0 0, .int .i64 ((tk T k).frm : Int), .int .i64 0, .int .i64 ((tk T k).frm : Int)] 62 (w6.heap.size + 1) (by simp [World.setCell]))
  have R79 := hide ((NR.bel (NR.bel (unhide hN1 ) ((Below.refl _ _).alloc (Nat.le_refl _) (.cells (nvA x) 62))) ((Below.refl _ _).alloc (Nat.le_refl _) (.cells #[.int .i64 0, .string ⟨#[]⟩, .int .i64 0, .slice none 0 0, .int .i64 ((tk T k).frm : Int), .int .i64 0, .int .i64 ((tk T k).frm : Int)] 62))))
  clear H62 K63 B65 B66 hN1 c67 f68 y69 c70 f71 y72
  refine (is_S (unhide H73) kComma).mono ?_
  rintro e w7 ⟨rfl, hb⟩
  have H80 := hide ((unhide H73).below hb)
  have K81 := hide ((unhide K74).below hb)
  have z82 := hb.size
  try simp [World.setCell] at z82
  have B83 := hide ((unhide B75).below hb)
  have B84 := hide ((unhide B76).below hb)
  have B85 := hide ((unhide B77).below hb)
  have B86 := hide ((unhide B78).below hb)
  have R87 := hide (NR.bel (unhide R79 ) hb)
  clear H73 K74 B75 B76 B77 B78 R79 hb
  obtain ⟨c88, f89, y90⟩ := unhide B83
  obtain ⟨c91, f92, y93⟩ := unhide B84
  obtain ⟨c94, f95, y96⟩ := unhide B85
  obtain ⟨c97, f98, y99⟩ := unhide B86
  go_wp2_with fail
  clear c88 f89 y90 c91 f92 y93 c94 f95 y96 c97 f98 y99
  refine (pass_S (unhide H80) h7').mono ?_
  rintro e w8 ⟨rfl, hb, hS⟩
  have H106 := hide hS
  have K107 := hide ((unhide K81).trans hb)
  have z108 := hb.size
  try simp [World.setCell] at z108
  have B109 := hide ((unhide B83).ke hb (by omega))
  have B110 := hide ((unhide B84).ke hb (by omega))
  have B111 := hide ((unhide B85).ke hb (by omega))
  have B112 := hide ((unhide B86).ke hb (by omega))
  have R113 := hide (NR.ke (unhide R87 ) hb (fun b hb => by omega))
  clear H80 K81 B83 B84 B85 B86 R87 hb hS
  obtain ⟨c114, f115, y116⟩ := unhide B109
  obtain ⟨c117, f118, y119⟩ := unhide B110
  obtain ⟨c120, f121, y122⟩ := unhide B111
  obtain ⟨c123, f124, y125⟩ := unhide B112
  go_wp2_with fail
  clear c114 f115 y116 c117 f118 y119 c120 f121 y122 c123 f124 y125
  refine (unhide HP' _ _ (unhide H106) (by intro j hj; cases hj; omega)).mono ?_
  rintro e w9 ⟨y, rfl, hb, hS, hN⟩
  have H132 := hide hS
  have K133 := hide ((unhide K107).trans hb)
  have z134 := hb.size
  try simp [World.setCell] at z134
  have B135 := hide ((unhide B109).ke hb (by omega))
  have B136 := hide ((unhide B110).ke hb (by omega))
  have B137 := hide ((unhide B111).ke hb (by omega))
  have B138 := hide ((unhide B112).ke hb (by omega))
  have R139 := hide (NR.ke (unhide R113 ) hb (fun b hb => by omega))
  clear H106 K107 B109 B110 B111 B112 R113 hb hS
  obtain ⟨c140, f141, y142⟩ := unhide B135
  obtain ⟨c143, f144, y145⟩ := unhide B136
  obtain ⟨c146, f147, y148⟩ := unhide B137
  obtain ⟨c149, f150, y151⟩ := unhide B138
  have hN2 := hide (fun b k3 (hq : part (k2 + 1) = .ok (b, k3)) => (hN _ b k3 rfl hq).rng w8.heap.size (fun b hb => by simpa using hb))
  clear hN
  unfold NV.v
  go_wp2_with fail
  have H152 := hide (((((unhide H132).set (b := w6.heap.size + 1) (by omega) (by omega) 0 (.int .i64 6)).set (b := w6.heap.size + 1) (by omega) (by omega) 3 (.slice (some ⟨w9.heap.size + 1, 0, none⟩) 2 2)).alloc (.cells (nvA y) 62)).alloc (.cells (nvB x y) 62))
  have K153 := hide (((((unhide K133).setNew (b := w6.heap.size + 1) (by omega) 0 (.int .i64 6)).setNew (b := w6.heap.size + 1) (by omega) 3 (.slice (some ⟨w9.heap.size + 1, 0, none⟩) 2 2)).alloc (.cells (nvA y) 62)).alloc (.cells (nvB x y) 62))
  have B154 := hide (((((unhide B135).setO (b2 := w6.heap.size + 1) (by omega) 0 (.int .i64 6)).setO (b2 := w6.heap.size + 1) (by omega) 3 (.slice (some ⟨w9.heap.size + 1, 0, none⟩) 2 2)).alloc (.cells (nvA y) 62)).alloc (.cells (nvB x y) 62))
  have B155 := hide (((((unhide B136).setO (b2 := w6.heap.size + 1) (by omega) 0 (.int .i64 6)).setO (b2 := w6.heap.size + 1) (by omega) 3 (.slice (some ⟨w9.heap.size + 1, 0, none⟩) 2 2)).alloc (.cells (nvA y) 62)).alloc (.cells (nvB x y) 62))
  have B156 := hide (((((unhide B137).setO (b2 := w6.heap.size + 1) (by omega) 0 (.int .i64 6)).setO (b2 := w6.heap.size + 1) (by omega) 3 (.slice (some ⟨w9.heap.size + 1, 0, none⟩) 2 2)).alloc (.cells (nvA y) 62)).alloc (.cells (nvB x y) 62))
  have B157 := hide (((((unhide B138).setS 0 (.int .i64 6) #[.int .i64 6, .string ⟨#[]⟩, .int .i64 0, .slice none 0 0, .int .i64 ((tk T k).frm : Int), .int .i64 0, .int .i64 ((tk T k).frm : Int)] rfl (by simp)).setS 3 (.slice (some ⟨w9.heap.size + 1, 0, none⟩) 2 2) #[.int .i64 6, .string ⟨#[]⟩, .int .i64 0, .slice (some ⟨w9.heap.size + 1, 0, none⟩) 2 2, .int .i64 ((tk T k).frm : Int), .int .i64 0, .int .i64 ((tk T k).frm : Int)] rfl (by simp)).alloc (.cells (nvA y) 62)).alloc (.cells (nvB x y) 62))
  have B158 := hide ((Bx.at ((w9.setCell ⟨w6.heap.size + 1, 0, none⟩ (.int .i64 6)).setCell ⟨w6.heap.size + 1, 3, none⟩ (.slice (some ⟨w9.heap.size + 1, 0, none⟩) 2 2)) #[.int .i64 y.k, .string y.s, .int .i64 y.n, .slice y.la y.ll y.lc, .int .i64 y.f, .int .i64 y.t, .int .i64 y.a] 62 (w9.heap.size) (by simp [World.setCell])).alloc (.cells (nvB x y) 62))
  have B159 := hide (Bx.at (((w9.setCell ⟨w6.heap.size + 1, 0, none⟩ (.int .i64 6)).setCell ⟨w6.heap.size + 1, 3, none⟩ (.slice (some ⟨w9.heap.size + 1, 0, none⟩) 2 2)).alloc (.cells (nvA y) 62)) (nvB x y) 62 (w9.heap.size + 1) (by simp [World.setCell]))
  have R160 := hide ((NR.bel (NR.bel (NR.set (NR.set (unhide R139 ) (b2 := w6.heap.size + 1) (fun b hb _ => by omega) 0 (.int .i64 6)) (b2 := w6.heap.size + 1) (fun b hb _ => by omega) 3 (.slice (some ⟨w9.heap.size + 1, 0, none⟩) 2 2)) ((Below.refl _ _).alloc (Nat.le_refl _) (.cells (nvA y) 62))) ((Below.refl _ _).alloc (Nat.le_refl _) (.cells (nvB x y) 62))))
  have R161 := hide (fun b k3 hq => (NR.bel (NR.bel (NR.set (NR.set (unhide hN2 b k3 hq) (b2 := w6.heap.size + 1) (fun b hb _ => by omega) 0 (.int .i64 6)) (b2 := w6.heap.size + 1) (fun b hb _ => by omega) 3 (.slice (some ⟨w9.heap.size + 1, 0, none⟩) 2 2)) ((Below.refl _ _).alloc (Nat.le_refl _) (.cells (nvA y) 62))) ((Below.refl _ _).alloc (Nat.le_refl _) (.cells (nvB x y) 62))))
  clear H132 K133 B135 B136 B137 B138 R139 hN2 c140 f141 y142 c143 f144 y145 c146 f147 y148 c149 f150 y151
  refine (want_S (unhide H152) kClose).mono ?_
  rintro e w10 ⟨rfl, hb, hS⟩
  have H162 := hide hS
  have K163 := hide ((unhide K153).trans hb)
  have z164 := hb.size
  try simp [World.setCell] at z164
  have B165 := hide ((unhide B154).ke hb (by omega))
  have B166 := hide ((unhide B155).ke hb (by omega))
  have B167 := hide ((unhide B156).ke hb (by omega))
  have B168 := hide ((unhide B157).ke hb (by omega))
  have B169 := hide ((unhide B158).ke hb (by omega))
  have B170 := hide ((unhide B159).ke hb (by omega))
  have R171 := hide (NR.ke (unhide R160 ) hb (fun b hb => by omega))
  have R172 := hide (fun b k3 hq => NR.ke (unhide R161 b k3 hq) hb (fun b hb => by omega))
  clear H152 K153 B154 B155 B156 B157 B158 B159 R160 R161 hb hS
  obtain ⟨c173, f174, y175⟩ := unhide B165
  obtain ⟨c176, f177, y178⟩ := unhide B166
  obtain ⟨c179, f180, y181⟩ := unhide B167
  obtain ⟨c182, f183, y184⟩ := unhide B168
  obtain ⟨c185, f186, y187⟩ := unhide B169
  obtain ⟨c188, f189, y190⟩ := unhide B170
  go_wp2_with fail
  clear c173 f174 y175 c176 f177 y178 c179 f180 y181 c182 f183 y184 c185 f186 y187 c188 f189 y190
  refine (last_S (unhide H162)).mono ?_
  rintro e w11 ⟨m, rfl, hb, hn⟩
  have H199 := hide ((unhide H162).below hb)
  have K200 := hide ((unhide K163).below hb)
  have z201 := hb.size
  try simp [World.setCell] at z201
  have B202 := hide ((unhide B165).below hb)
  have B203 := hide ((unhide B166).below hb)
  have B204 := hide ((unhide B167).below hb)
  have B205 := hide ((unhide B168).below hb)
  have B206 := hide ((unhide B169).below hb)
  have B207 := hide ((unhide B170).below hb)
  have R208 := hide (NR.bel (unhide R171 ) hb)
  have R209 := hide (fun b k3 hq => NR.bel (unhide R172 b k3 hq) hb)
  clear H162 K163 B165 B166 B167 B168 B169 B170 R171 R172 hb
  obtain ⟨c210, f211, y212⟩ := unhide B202
  obtain ⟨c213, f214, y215⟩ := unhide B203
  obtain ⟨c216, f217, y218⟩ := unhide B204
  obtain ⟨c219, f220, y221⟩ := unhide B205
  obtain ⟨c222, f223, y224⟩ := unhide B206
  obtain ⟨c225, f226, y227⟩ := unhide B207
  have hn1 := hide hn
  clear hn
  go_wp2_with fail
  have H228 := hide (((unhide H199).set (b := w6.heap.size + 1) (by omega) (by omega) 5 (.int .i64 (m : Int))).set7 (b := w.heap.size) (by omega) (by omega) (.int .i64 6) (.string ⟨#[]⟩) (.int .i64 0) (.slice (some ⟨w9.heap.size + 1, 0, none⟩) 2 2) (.int .i64 ((tk T k).frm : Int)) (.int .i64 (m : Int)) (.int .i64 ((tk T k).frm : Int)))
  have K229 := hide (((unhide K200).setNew (b := w6.heap.size + 1) (by omega) 5 (.int .i64 (m : Int))).set7 (b := w.heap.size) (by omega) (.int .i64 6) (.string ⟨#[]⟩) (.int .i64 0) (.slice (some ⟨w9.heap.size + 1, 0, none⟩) 2 2) (.int .i64 ((tk T k).frm : Int)) (.int .i64 (m : Int)) (.int .i64 ((tk T k).frm : Int)))
  have B230 := hide (((unhide B202).setO (b2 := w6.heap.size + 1) (by omega) 5 (.int .i64 (m : Int))).set7 rfl (.int .i64 6) (.string ⟨#[]⟩) (.int .i64 0) (.slice (some ⟨w9.heap.size + 1, 0, none⟩) 2 2) (.int .i64 ((tk T k).frm : Int)) (.int .i64 (m : Int)) (.int .i64 ((tk T k).frm : Int)))
  have B231 := hide (((unhide B203).setO (b2 := w6.heap.size + 1) (by omega) 5 (.int .i64 (m : Int))).setO7 (b := w.heap.size) (by omega) (.int .i64 6) (.string ⟨#[]⟩) (.int .i64 0) (.slice (some ⟨w9.heap.size + 1, 0, none⟩) 2 2) (.int .i64 ((tk T k).frm : Int)) (.int .i64 (m : Int)) (.int .i64 ((tk T k).frm : Int)))
  have B232 := hide (((unhide B204).setO (b2 := w6.heap.size + 1) (by omega) 5 (.int .i64 (m : Int))).setO7 (b := w.heap.size) (by omega) (.int .i64 6) (.string ⟨#[]⟩) (.int .i64 0) (.slice (some ⟨w9.heap.size + 1, 0, none⟩) 2 2) (.int .i64 ((tk T k).frm : Int)) (.int .i64 (m : Int)) (.int .i64 ((tk T k).frm : Int)))
  have B233 := hide (((unhide B205).setS 5 (.int .i64 (m : Int)) #[.int .i64 6, .string ⟨#[]⟩, .int .i64 0, .slice (some ⟨w9.heap.size + 1, 0, none⟩) 2 2, .int .i64 ((tk T k).frm : Int), .int .i64 (m : Int), .int .i64 ((tk T k).frm : Int)] rfl (by simp)).setO7 (b := w.heap.size) (by omega) (.int .i64 6) (.string ⟨#[]⟩) (.int .i64 0) (.slice (some ⟨w9.heap.size + 1, 0, none⟩) 2 2) (.int .i64 ((tk T k).frm : Int)) (.int .i64 (m : Int)) (.int .i64 ((tk T k).frm : Int)))
  have B234 := hide (((unhide B206).setO (b2 := w6.heap.size + 1) (by omega) 5 (.int .i64 (m : Int))).setO7 (b := w.heap.size) (by omega) (.int .i64 6) (.string ⟨#[]⟩) (.int .i64 0) (.slice (some ⟨w9.heap.size + 1, 0, none⟩) 2 2) (.int .i64 ((tk T k).frm : Int)) (.int .i64 (m : Int)) (.int .i64 ((tk T k).frm : Int)))
  have B235 := hide (((unhide B207).setO (b2 := w6.heap.size + 1) (by omega) 5 (.int .i64 (m : Int))).setO7 (b := w.heap.size) (by omega) (.int .i64 6) (.string ⟨#[]⟩) (.int .i64 0) (.slice (some ⟨w9.heap.size + 1, 0, none⟩) 2 2) (.int .i64 ((tk T k).frm : Int)) (.int .i64 (m : Int)) (.int .i64 ((tk T k).frm : Int)))
  have R236 := hide ((NRset7 (NR.set (unhide R208 ) (b2 := w6.heap.size + 1) (fun b hb _ => by omega) 5 (.int .i64 (m : Int))) (b2 := w.heap.size) (fun b hb _ => by omega) (.int .i64 6) (.string ⟨#[]⟩) (.int .i64 0) (.slice (some ⟨w9.heap.size + 1, 0, none⟩) 2 2) (.int .i64 ((tk T k).frm : Int)) (.int .i64 (m : Int)) (.int .i64 ((tk T k).frm : Int))))
  have R237 := hide (fun b k3 hq => (NRset7 (NR.set (unhide R209 b k3 hq) (b2 := w6.heap.size + 1) (fun b hb _ => by omega) 5 (.int .i64 (m : Int))) (b2 := w.heap.size) (fun b hb _ => by omega) (.int .i64 6) (.string ⟨#[]⟩) (.int .i64 0) (.slice (some ⟨w9.heap.size + 1, 0, none⟩) 2 2) (.int .i64 ((tk T k).frm : Int)) (.int .i64 (m : Int)) (.int .i64 ((tk T k).frm : Int))))
  clear H199 K200 B202 B203 B204 B205 B206 B207 R208 R209 c210 f211 y212 c213 f214 y215 c216 f217 y218 c219 f220 y221 c222 f223 y224 c225 f226 y227
  obtain ⟨cF, fF, zF⟩ := unhide B230
  refine bodyPost_ret (v := NV.v ⟨6, kNo, 0, some ⟨w9.heap.size + 1, 0, none⟩, 2, 2, ((tk T k).frm : Int), (m : Int), ((tk T k).frm : Int)⟩) (by simp [results, Tryz.results199, go_sem, cF, NV.v]; try rfl) rfl ⟨_, rfl, unhide K229, unhide H228, fun b k3 k4 h3 h4 => ?_⟩
  have hl : m = lastK T k4 := unhide hn1 k4 (by rw [nx_ok h3, nx_ok h4])
  subst hl
  exact NR.two (P := fun b => w.heap.size ≤ b) 6 kNo 0 (tk T k).frm (lastK T k4) (tk T k).frm (unhide B235) rfl ((unhide R236).wide _ (fun b hb => by omega)) ((unhide R237 b k3 h3).wide _ (fun b hb => by omega)) (by omega) 2

set_option maxRecDepth 100000 in
set_option maxHeartbeats 4000000 in
theorem small_pair1 {k n : Nat} {part : M Nd} (h : SS w rb g cap T (.ok k)) (sort : Nat) (hs : sort = 1) (hf : T.length ≤ k + (n + 1)) (ho : isT (tk T k) kOpen = true)
    (HP : NodeC rb g cap T 301 #[.pointer (some ⟨rb, 0, none⟩), .int .i64 (sort : Int)] part n) (hm : Mono part) {a : Nd} {k2 : Nat} (hp : part (k + 1) = .ok (a, k2)) (hk : isT (tk T k2) kComma = true) :
    Calls Tryz.prog 199 #[.pointer (some ⟨rb, 0, none⟩), .int .i64 (sort : Int)] w fun e w' => ∃ x : NV, e = .returned x.v ∧ Ke rb w w' ∧ SS w' rb g cap T (nx (nx (.ok (k2 + 1)) part) (wantM T kClose)) ∧
      ∀ b k3 k4, part (k2 + 1) = .ok (b, k3) → wantM T kClose k3 = .ok ((), k4) → NR w' (fun b => w.heap.size ≤ b) (.mk 6 kNo 0 [a, b] (tk T k).frm (lastK T k4) (tk T k).frm) x := by
  have hb : beginsB (tk T k) sort = true := by unfold beginsB; rw [ho]; rfl
  obtain ⟨q5, q⟩ : (tk T k).kind = 5 ∧ ((tk T k).text.toList == [40]) = true := by rw [isT_open] at ho; simpa using ho
  have h7 : (tk T k).kind ≠ 7 := by omega
  have e5 : (((tk T k).kind : Int) != 5) = false := by rw [q5]; rfl
  have hs3 : sort = 1 ∨ sort = 2 ∨ sort = 3 := by omega
  have s1 : ((sort : Int) != 1) = false := by rw [hs]; rfl
  have s3 : ((sort : Int) == 3) = false := by rw [hs]; rfl
  have h7' : (tk T k2).kind ≠ 7 := by have := isT_kind hk; omega
  have hD : isS T (.ok k2) kComma = true := hk
  have hk2 := hm _ _ _ hp
  have HP' := hide HP
  have hp' := hide hp
  clear ho q5 hk HP hp hm hs
  have hr := h.hr
  have hg := h.hg
  have H1 := hide h
  have K2 := hide (Ke.refl rb w)
  clear h
  go_enter Tryz.func199, Tryz.ntmps199
  go_wp2_with fail
  have H3 := hide ((unhide H1).alloc (.cells zNode 62))
  have K4 := hide ((unhide K2).alloc (.cells zNode 62))
  have B5 := hide (Bx.at w zNode 62 (w.heap.size) (by simp [World.setCell]))
  clear H1 K2
  refine (next_S (unhide H3)).mono ?_
  rintro e w1 ⟨t, rfl, hb, ht⟩
  have H6 := hide ((unhide H3).below hb)
  have K7 := hide ((unhide K4).below hb)
  have z8 := hb.size
  try simp [World.setCell] at z8
  have B9 := hide ((unhide B5).below hb)
  clear H3 K4 B5 hb
  obtain ⟨c10, f11, y12⟩ := unhide B9
  have ht' := ht k rfl
  subst ht'
  clear ht
  unfold tokV
  go_wp2_with fail
  have H13 := hide ((unhide H6).alloc (.cells #[.int .i64 ((tk T k).kind : Int), .string (tk T k).text, .int .i64 ((tk T k).frm : Int), .int .i64 ((tk T k).to : Int)] 58))
  have K14 := hide ((unhide K7).alloc (.cells #[.int .i64 ((tk T k).kind : Int), .string (tk T k).text, .int .i64 ((tk T k).frm : Int), .int .i64 ((tk T k).to : Int)] 58))
  have B15 := hide ((unhide B9).alloc (.cells #[.int .i64 ((tk T k).kind : Int), .string (tk T k).text, .int .i64 ((tk T k).frm : Int), .int .i64 ((tk T k).to : Int)] 58))
  have B16 := hide (Bx.at w1 #[.int .i64 ((tk T k).kind : Int), .string (tk T k).text, .int .i64 ((tk T k).frm : Int), .int .i64 ((tk T k).to : Int)] 58 (w1.heap.size) (by simp [World.setCell]))
  clear H6 K7 B9 c10 f11 y12
  refine (ok_S (unhide H13)).mono ?_
  rintro e w2 ⟨rfl, rfl⟩
  go_wp2_with fail
  refine (begins_any (tk T k) _ sort hs3).mono ?_
  rintro e w3 ⟨rfl, hb⟩
  have H17 := hide ((unhide H13).below hb)
  have K18 := hide ((unhide K14).below hb)
  have z19 := hb.size
  try simp [World.setCell] at z19
  have B20 := hide ((unhide B15).below hb)
  have B21 := hide ((unhide B16).below hb)
  clear H13 K14 B15 B16 hb
  obtain ⟨c22, f23, y24⟩ := unhide B20
  obtain ⟨c25, f26, y27⟩ := unhide B21
  go_wp2_with fail
  clear c22 f23 y24 c25 f26 y27
  refine (pass_S (unhide H17) h7).mono ?_
  rintro e w4 ⟨rfl, hb, hS⟩
  have H32 := hide hS
  have K33 := hide ((unhide K18).trans hb)
  have z34 := hb.size
  try simp [World.setCell] at z34
  have B35 := hide ((unhide B20).ke hb (by omega))
  have B36 := hide ((unhide B21).ke hb (by omega))
  clear H17 K18 B20 B21 hb hS
  obtain ⟨c37, f38, y39⟩ := unhide B35
  obtain ⟨c40, f41, y42⟩ := unhide B36
  go_wp2_with fail
  clear c37 f38 y39 c40 f41 y42
  refine (unhide HP' _ _ (unhide H32) (by intro j hj; cases hj; omega)).mono ?_
  rintro e w6 ⟨x, rfl, hb, hS, hN⟩
  have H47 := hide hS
  have K48 := hide ((unhide K33).trans hb)
  have z49 := hb.size
  try simp [World.setCell] at z49
  have B50 := hide ((unhide B35).ke hb (by omega))
  have B51 := hide ((unhide B36).ke hb (by omega))
  clear H32 K33 B35 B36 hb hS
  obtain ⟨c52, f53, y54⟩ := unhide B50
  obtain ⟨c55, f56, y57⟩ := unhide B51
  have hN1 := hide ((hN _ _ _ rfl (unhide hp')).rng w4.heap.size (fun b hb => by simpa using hb))
  clear hN
  rw [nx_ok (unhide hp')] at H47
  unfold NV.v
  go_wp2_with fail
  have H58 := hide (((unhide H47).alloc (.cells (nvA x) 62)).alloc (.cells #[.int .i64 0, .string ⟨#[]⟩, .int .i64 0, .slice none 0 0, .int .i64 ((tk T k).frm : Int), .int .i64 0, .int .i64 ((tk T k).frm : Int)] 62))
  have K59 := hide (((unhide K48).alloc (.cells (nvA x) 62)).alloc (.cells #[.int .i64 0, .string ⟨#[]⟩, .int .i64 0, .slice none 0 0, .int .i64 ((tk T k).frm : Int), .int .i64 0, .int .i64 ((tk T k).frm : Int)] 62))
  have B60 := hide (((unhide B50).alloc (.cells (nvA x) 62)).alloc (.cells #[.int .i64 0, .string ⟨#[]⟩, .int .i64 0, .slice none 0 0, .int .i64 ((tk T k).frm : Int), .int .i64 0, .int .i64 ((tk T k).frm : Int)] 62))
  have B61 := hide (((unhide B51).alloc (.cells (nvA x) 62)).alloc (.cells #[.int .i64 0, .string ⟨#[]⟩, .int .i64 0, .slice none 0 0, .int .i64 ((tk T k).frm : Int), .int .i64 0, .int .i64 ((tk T k).frm : Int)] 62))
  have B62 := hide ((Bx.at w6 (nvA x) 62 (w6.heap.size) (by simp [World.setCell])).alloc (.cells #[.int .i64 0, .string ⟨#[]⟩, .int .i64 0, .slice none 0 0, .int .i64 ((tk T k).frm : Int), .int .i64 0, .int .i64 ((tk T k).frm : Int)] 62))
  have B63 := hide (Bx.at (w6.alloc (.cells (nvA x) 62)) #[.int .i64 0, .string ⟨#[]⟩, .int .i64 0, .slice none 0 0, .int .i64 ((tk T k).frm : Int), .int .i64 0, .int .i64 ((tk T k).frm : Int)] 62 (w6.heap.size + 1) (by simp [World.setCell]))
  have R64 := hide ((NR.bel (NR.bel (unhide hN1 ) ((Below.refl _ _).alloc (Nat.le_refl _) (.cells (nvA x) 62))) ((Below.refl _ _).alloc (Nat.le_refl _) (.cells #[.int .i64 0, .string ⟨#[]⟩, .int .i64 0, .slice none 0 0, .int .i64 ((tk T k).frm : Int), .int .i64 0, .int .i64 ((tk T k).frm : Int)] 62))))
  clear H47 K48 B50 B51 hN1 c52 f53 y54 c55 f56 y57
  refine (is_S (unhide H58) kComma).mono ?_
  rintro e w7 ⟨rfl, hb⟩
  have H65 := hide ((unhide H58).below hb)
  have K66 := hide ((unhide K59).below hb)
  have z67 := hb.size
  try simp [World.setCell] at z67
  have B68 := hide ((unhide B60).below hb)
  have B69 := hide ((unhide B61).below hb)
  have B70 := hide ((unhide B62).below hb)
  have B71 := hide ((unhide B63).below hb)
  have R72 := hide (NR.bel (unhide R64 ) hb)
  clear H58 K59 B60 B61 B62 B63 R64 hb
  obtain ⟨c73, f74, y75⟩ := unhide B68
  obtain ⟨c76, f77, y78⟩ := unhide B69
  obtain ⟨c79, f80, y81⟩ := unhide B70
  obtain ⟨c82, f83, y84⟩ := unhide B71
  go_wp2_with fail
  clear c73 f74 y75 c76 f77 y78 c79 f80 y81 c82 f83 y84
  refine (pass_S (unhide H65) h7').mono ?_
  rintro e w8 ⟨rfl, hb, hS⟩
  have H91 := hide hS
  have K92 := hide ((unhide K66).trans hb)
  have z93 := hb.size
  try simp [World.setCell] at z93
  have B94 := hide ((unhide B68).ke hb (by omega))
  have B95 := hide ((unhide B69).ke hb (by omega))
  have B96 := hide ((unhide B70).ke hb (by omega))
  have B97 := hide ((unhide B71).ke hb (by omega))
  have R98 := hide (NR.ke (unhide R72 ) hb (fun b hb => by omega))
  clear H65 K66 B68 B69 B70 B71 R72 hb hS
  obtain ⟨c99, f100, y101⟩ := unhide B94
  obtain ⟨c102, f103, y104⟩ := unhide B95
  obtain ⟨c105, f106, y107⟩ := unhide B96
  obtain ⟨c108, f109, y110⟩ := unhide B97
  go_wp2_with fail
  clear c99 f100 y101 c102 f103 y104 c105 f106 y107 c108 f109 y110
  refine (unhide HP' _ _ (unhide H91) (by intro j hj; cases hj; omega)).mono ?_
  rintro e w9 ⟨y, rfl, hb, hS, hN⟩
  have H117 := hide hS
  have K118 := hide ((unhide K92).trans hb)
  have z119 := hb.size
  try simp [World.setCell] at z119
  have B120 := hide ((unhide B94).ke hb (by omega))
  have B121 := hide ((unhide B95).ke hb (by omega))
  have B122 := hide ((unhide B96).ke hb (by omega))
  have B123 := hide ((unhide B97).ke hb (by omega))
  have R124 := hide (NR.ke (unhide R98 ) hb (fun b hb => by omega))
  clear H91 K92 B94 B95 B96 B97 R98 hb hS
  obtain ⟨c125, f126, y127⟩ := unhide B120
  obtain ⟨c128, f129, y130⟩ := unhide B121
  obtain ⟨c131, f132, y133⟩ := unhide B122
  obtain ⟨c134, f135, y136⟩ := unhide B123
  have hN2 := hide (fun b k3 (hq : part (k2 + 1) = .ok (b, k3)) => (hN _ b k3 rfl hq).rng w8.heap.size (fun b hb => by simpa using hb))
  clear hN
  unfold NV.v
  go_wp2_with fail
  have H137 := hide (((((unhide H117).set (b := w6.heap.size + 1) (by omega) (by omega) 0 (.int .i64 6)).set (b := w6.heap.size + 1) (by omega) (by omega) 3 (.slice (some ⟨w9.heap.size + 1, 0, none⟩) 2 2)).alloc (.cells (nvA y) 62)).alloc (.cells (nvB x y) 62))
  have K138 := hide (((((unhide K118).setNew (b := w6.heap.size + 1) (by omega) 0 (.int .i64 6)).setNew (b := w6.heap.size + 1) (by omega) 3 (.slice (some ⟨w9.heap.size + 1, 0, none⟩) 2 2)).alloc (.cells (nvA y) 62)).alloc (.cells (nvB x y) 62))
  have B139 := hide (((((unhide B120).setO (b2 := w6.heap.size + 1) (by omega) 0 (.int .i64 6)).setO (b2 := w6.heap.size + 1) (by omega) 3 (.slice (some ⟨w9.heap.size + 1, 0, none⟩) 2 2)).alloc (.cells (nvA y) 62)).alloc (.cells (nvB x y) 62))
  have B140 := hide (((((unhide B121).setO (b2 := w6.heap.size + 1) (by omega) 0 (.int .i64 6)).setO (b2 := w6.heap.size + 1) (by omega) 3 (.slice (some ⟨w9.heap.size + 1, 0, none⟩) 2 2)).alloc (.cells (nvA y) 62)).alloc (.cells (nvB x y) 62))
  have B141 := hide (((((unhide B122).setO (b2 := w6.heap.size + 1) (by omega) 0 (.int .i64 6)).setO (b2 := w6.heap.size + 1) (by omega) 3 (.slice (some ⟨w9.heap.size + 1, 0, none⟩) 2 2)).alloc (.cells (nvA y) 62)).alloc (.cells (nvB x y) 62))
  have B142 := hide (((((unhide B123).setS 0 (.int .i64 6) #[.int .i64 6, .string ⟨#[]⟩, .int .i64 0, .slice none 0 0, .int .i64 ((tk T k).frm : Int), .int .i64 0, .int .i64 ((tk T k).frm : Int)] rfl (by simp)).setS 3 (.slice (some ⟨w9.heap.size + 1, 0, none⟩) 2 2) #[.int .i64 6, .string ⟨#[]⟩, .int .i64 0, .slice (some ⟨w9.heap.size + 1, 0, none⟩) 2 2, .int .i64 ((tk T k).frm : Int), .int .i64 0, .int .i64 ((tk T k).frm : Int)] rfl (by simp)).alloc (.cells (nvA y) 62)).alloc (.cells (nvB x y) 62))
  have B143 := hide ((Bx.at ((w9.setCell ⟨w6.heap.size + 1, 0, none⟩ (.int .i64 6)).setCell ⟨w6.heap.size + 1, 3, none⟩ (.slice (some ⟨w9.heap.size + 1, 0, none⟩) 2 2)) #[.int .i64 y.k, .string y.s, .int .i64 y.n, .slice y.la y.ll y.lc, .int .i64 y.f, .int .i64 y.t, .int .i64 y.a] 62 (w9.heap.size) (by simp [World.setCell])).alloc (.cells (nvB x y) 62))
  have B144 := hide (Bx.at (((w9.setCell ⟨w6.heap.size + 1, 0, none⟩ (.int .i64 6)).setCell ⟨w6.heap.size + 1, 3, none⟩ (.slice (some ⟨w9.heap.size + 1, 0, none⟩) 2 2)).alloc (.cells (nvA y) 62)) (nvB x y) 62 (w9.heap.size + 1) (by simp [World.setCell]))
  have R145 := hide ((NR.bel (NR.bel (NR.set (NR.set (unhide R124 ) (b2 := w6.heap.size + 1) (fun b hb _ => by omega) 0 (.int .i64 6)) (b2 := w6.heap.size + 1) (fun b hb _ => by omega) 3 (.slice (some ⟨w9.heap.size + 1, 0, none⟩) 2 2)) ((Below.refl _ _).alloc (Nat.le_refl _) (.cells (nvA y) 62))) ((Below.refl _ _).alloc (Nat.le_refl _) (.cells (nvB x y) 62))))
  have R146 := hide (fun b k3 hq => (NR.bel (NR.bel (NR.set (NR.set (unhide hN2 b k3 hq) (b2 := w6.heap.size + 1) (fun b hb _ => by omega) 0 (.int .i64 6)) (b2 := w6.heap.size + 1) (fun b hb _ => by omega) 3 (.slice (some ⟨w9.heap.size + 1, 0, none⟩) 2 2)) ((Below.refl _ _).alloc (Nat.le_refl _) (.cells (nvA y) 62))) ((Below.refl _ _).alloc (Nat.le_refl _) (.cells (nvB x y) 62))))
  clear H117 K118 B120 B121 B122 B123 R124 hN2 c125 f126 y127 c128 f129 y130 c131 f132 y133 c134 f135 y136
  refine (want_S (unhide H137) kClose).mono ?_
  rintro e w10 ⟨rfl, hb, hS⟩
  have H147 := hide hS
  have K148 := hide ((unhide K138).trans hb)
  have z149 := hb.size
  try simp [World.setCell] at z149
  have B150 := hide ((unhide B139).ke hb (by omega))
  have B151 := hide ((unhide B140).ke hb (by omega))
  have B152 := hide ((unhide B141).ke hb (by omega))
  have B153 := hide ((unhide B142).ke hb (by omega))
  have B154 := hide ((unhide B143).ke hb (by omega))
  have B155 := hide ((unhide B144).ke hb (by omega))
  have R156 := hide (NR.ke (unhide R145 ) hb (fun b hb => by omega))
  have R157 := hide (fun b k3 hq => NR.ke (unhide R146 b k3 hq) hb (fun b hb => by omega))
  clear H137 K138 B139 B140 B141 B142 B143 B144 R145 R146 hb hS
  obtain ⟨c158, f159, y160⟩ := unhide B150
  obtain ⟨c161, f162, y163⟩ := unhide B151
  obtain ⟨c164, f165, y166⟩ := unhide B152
  obtain ⟨c167, f168, y169⟩ := unhide B153
  obtain ⟨c170, f171, y172⟩ := unhide B154
  obtain ⟨c173, f174, y175⟩ := unhide B155
  go_wp2_with fail
  clear c158 f159 y160 c161 f162 y163 c164 f165 y166 c167 f168 y169 c170 f171 y172 c173 f174 y175
  refine (last_S (unhide H147)).mono ?_
  rintro e w11 ⟨m, rfl, hb, hn⟩
  have H184 := hide ((unhide H147).below hb)
  have K185 := hide ((unhide K148).below hb)
  have z186 := hb.size
  try simp [World.setCell] at z186
  have B187 := hide ((unhide B150).below hb)
  have B188 := hide ((unhide B151).below hb)
  have B189 := hide ((unhide B152).below hb)
  have B190 := hide ((unhide B153).below hb)
  have B191 := hide ((unhide B154).below hb)
  have B192 := hide ((unhide B155).below hb)
  have R193 := hide (NR.bel (unhide R156 ) hb)
  have R194 := hide (fun b k3 hq => NR.bel (unhide R157 b k3 hq) hb)
  clear H147 K148 B150 B151 B152 B153 B154 B155 R156 R157 hb
  obtain ⟨c195, f196, y197⟩ := unhide B187
  obtain ⟨c198, f199, y200⟩ := unhide B188
  obtain ⟨c201, f202, y203⟩ := unhide B189
  obtain ⟨c204, f205, y206⟩ := unhide B190
  obtain ⟨c207, f208, y209⟩ := unhide B191
  obtain ⟨c210, f211, y212⟩ := unhide B192
  have hn1 := hide hn
  clear hn
  go_wp2_with fail
  have H213 := hide (((unhide H184).set (b := w6.heap.size + 1) (by omega) (by omega) 5 (.int .i64 (m : Int))).set7 (b := w.heap.size) (by omega) (by omega) (.int .i64 6) (.string ⟨#[]⟩) (.int .i64 0) (.slice (some ⟨w9.heap.size + 1, 0, none⟩) 2 2) (.int .i64 ((tk T k).frm : Int)) (.int .i64 (m : Int)) (.int .i64 ((tk T k).frm : Int)))
  have K214 := hide (((unhide K185).setNew (b := w6.heap.size + 1) (by omega) 5 (.int .i64 (m : Int))).set7 (b := w.heap.size) (by omega) (.int .i64 6) (.string ⟨#[]⟩) (.int .i64 0) (.slice (some ⟨w9.heap.size + 1, 0, none⟩) 2 2) (.int .i64 ((tk T k).frm : Int)) (.int .i64 (m : Int)) (.int .i64 ((tk T k).frm : Int)))
  have B215 := hide (((unhide B187).setO (b2 := w6.heap.size + 1) (by omega) 5 (.int .i64 (m : Int))).set7 rfl (.int .i64 6) (.string ⟨#[]⟩) (.int .i64 0) (.slice (some ⟨w9.heap.size + 1, 0, none⟩) 2 2) (.int .i64 ((tk T k).frm : Int)) (.int .i64 (m : Int)) (.int .i64 ((tk T k).frm : Int)))
  have B216 := hide (((unhide B188).setO (b2 := w6.heap.size + 1) (by omega) 5 (.int .i64 (m : Int))).setO7 (b := w.heap.size) (by omega) (.int .i64 6) (.string ⟨#[]⟩) (.int .i64 0) (.slice (some ⟨w9.heap.size + 1, 0, none⟩) 2 2) (.int .i64 ((tk T k).frm : Int)) (.int .i64 (m : Int)) (.int .i64 ((tk T k).frm : Int)))
  have B217 := hide (((unhide B189).setO (b2 := w6.heap.size + 1) (by omega) 5 (.int .i64 (m : Int))).setO7 (b := w.heap.size) (by omega) (.int .i64 6) (.string ⟨#[]⟩) (.int .i64 0) (.slice (some ⟨w9.heap.size + 1, 0, none⟩) 2 2) (.int .i64 ((tk T k).frm : Int)) (.int .i64 (m : Int)) (.int .i64 ((tk T k).frm : Int)))
  have B218 := hide (((unhide B190).setS 5 (.int .i64 (m : Int)) #[.int .i64 6, .string ⟨#[]⟩, .int .i64 0, .slice (some ⟨w9.heap.size + 1, 0, none⟩) 2 2, .int .i64 ((tk T k).frm : Int), .int .i64 (m : Int), .int .i64 ((tk T k).frm : Int)] rfl (by simp)).setO7 (b := w.heap.size) (by omega) (.int .i64 6) (.string ⟨#[]⟩) (.int .i64 0) (.slice (some ⟨w9.heap.size + 1, 0, none⟩) 2 2) (.int .i64 ((tk T k).frm : Int)) (.int .i64 (m : Int)) (.int .i64 ((tk T k).frm : Int)))
  have B219 := hide (((unhide B191).setO (b2 := w6.heap.size + 1) (by omega) 5 (.int .i64 (m : Int))).setO7 (b := w.heap.size) (by omega) (.int .i64 6) (.string ⟨#[]⟩) (.int .i64 0) (.slice (some ⟨w9.heap.size + 1, 0, none⟩) 2 2) (.int .i64 ((tk T k).frm : Int)) (.int .i64 (m : Int)) (.int .i64 ((tk T k).frm : Int)))
  have B220 := hide (((unhide B192).setO (b2 := w6.heap.size + 1) (by omega) 5 (.int .i64 (m : Int))).setO7 (b := w.heap.size) (by omega) (.int .i64 6) (.string ⟨#[]⟩) (.int .i64 0) (.slice (some ⟨w9.heap.size + 1, 0, none⟩) 2 2) (.int .i64 ((tk T k).frm : Int)) (.int .i64 (m : Int)) (.int .i64 ((tk T k).frm : Int)))
  have R221 := hide ((NRset7 (NR.set (unhide R193 ) (b2 := w6.heap.size + 1) (fun b hb _ => by omega) 5 (.int .i64 (m : Int))) (b2 := w.heap.size) (fun b hb _ => by omega) (.int .i64 6) (.string ⟨#[]⟩) (.int .i64 0) (.slice (some ⟨w9.heap.size + 1, 0, none⟩) 2 2) (.int .i64 ((tk T k).frm : Int)) (.int .i64 (m : Int)) (.int .i64 ((tk T k).frm : Int))))
  have R222 := hide (fun b k3 hq => (NRset7 (NR.set (unhide R194 b k3 hq) (b2 := w6.heap.size + 1) (fun b hb _ => by omega) 5 (.int .i64 (m : Int))) (b2 := w.heap.size) (fun b hb _ => by omega) (.int .i64 6) (.string ⟨#[]⟩) (.int .i64 0) (.slice (some ⟨w9.heap.size + 1, 0, none⟩) 2 2) (.int .i64 ((tk T k).frm : Int)) (.int .i64 (m : Int)) (.int .i64 ((tk T k).frm : Int))))
  clear H184 K185 B187 B188 B189 B190 B191 B192 R193 R194 c195 f196 y197 c198 f199 y200 c201 f202 y203 c204 f205 y206 c207 f208 y209 c210 f211 y212
  obtain ⟨cF, fF, zF⟩ := unhide B215
  refine bodyPost_ret (v := NV.v ⟨6, kNo, 0, some ⟨w9.heap.size + 1, 0, none⟩, 2, 2, ((tk T k).frm : Int), (m : Int), ((tk T k).frm : Int)⟩) (by simp [results, Tryz.results199, go_sem, cF, NV.v]; try rfl) rfl ⟨_, rfl, unhide K214, unhide H213, fun b k3 k4 h3 h4 => ?_⟩
  have hl : m = lastK T k4 := unhide hn1 k4 (by rw [nx_ok h3, nx_ok h4])
  subst hl
  exact NR.two (P := fun b => w.heap.size ≤ b) 6 kNo 0 (tk T k).frm (lastK T k4) (tk T k).frm (unhide B220) rfl ((unhide R221).wide _ (fun b hb => by omega)) ((unhide R222 b k3 h3).wide _ (fun b hb => by omega)) (by omega) 2
end
end Go.Proofs.YtfflpeklkfjdnaaGreatDoor
namespace Go.Proofs.YtfflpeklkfjdnaaGreatDoor
open Go Go.RowKit Un

/-- A type's three cells. -/
structure TV where
  n : Int
  s : ByteArray
  la : Option Addr
  ll : Nat
  lc : Nat
def TV.v (x : TV) : Value := .agg #[.int .i64 x.n, .string x.s, .slice x.la x.ll x.lc]
def TV.l (x : TV) : List Value := [.int .i64 x.n, .string x.s, .slice x.la x.ll x.lc]
def TV.no : TV := ⟨0, ⟨#[]⟩, none, 0, 0⟩
def flat3 (xs : List TV) : List Value := xs.flatMap TV.l
theorem flat3_len (xs : List TV) : (flat3 xs).length = xs.length * 3 := by
  induction xs with
  | nil => rfl
  | cons x xs ih => simp only [flat3, List.flatMap_cons, List.length_append] at ih ⊢; rw [ih]; simp [TV.l]; omega
theorem flat3_at (xs : List TV) (i j : Nat) (h : i < xs.length) (hj : j < 3) : (flat3 xs)[i * 3 + j]? = (xs[i].l)[j]? := by
  induction xs generalizing i with
  | nil => simp at h
  | cons x xs ih =>
    simp only [flat3, List.flatMap_cons]
    cases i with
    | zero => rw [List.getElem?_append_left (by simp [TV.l]; omega)]; simp
    | succ i =>
      rw [List.getElem?_append_right (by simp [TV.l]; omega)]
      have : (i + 1) * 3 + j - x.l.length = i * 3 + j := by simp [TV.l]; omega
      rw [this]
      exact ih i (by simpa using h)
/-- The three cells as they lie in a row. -/
def at3 (w : World) (g i : Nat) (x : TV) : Prop := ∀ j, j < 3 → w.cell? ⟨g, i * 3 + j, none⟩ = (x.l)[j]?

/-- A name that may have so many types behind it. -/
def okN (c : ByteArray) (n : Nat) : Prop := c.size ≤ 1000 ∧ (c = nFn ∨ c = nPr → n = 2)
/-- A type as it lies in memory: its rows in blocks of which P holds; its variables are numbers up to N. -/
inductive TR (w : World) (P : Nat → Prop) (N : Nat) : Ty → TV → Prop where
  | var (n : Nat) (h : 0 < n) (hN : n ≤ N) : TR w P N (.var n) ⟨n, ⟨#[]⟩, none, 0, 0⟩
  | leaf (c : ByteArray) (hw : okN c 0) : TR w P N (.con c []) ⟨0, c, none, 0, 0⟩
  | row (c : ByteArray) (L : List Ty) (g cap : Nat) (xs : Nat → TV) (hw : okN c L.length) (h0 : L ≠ []) (hL : L.length ≤ 1001) (hP : P g) (hz : g < w.heap.size) (hc : ∀ i, i < L.length → at3 w g i (xs i)) (hr : ∀ i (h : i < L.length), TR w P N L[i] (xs i)) :
      TR w P N (.con c L) ⟨0, c, some ⟨g, 0, none⟩, L.length, cap⟩

theorem TR.move {w w' : World} {P Q : Nat → Prop} {N N' : Nat} {t : Ty} {x : TV} (h : TR w P N t x) (hn : N ≤ N') (hs : w.heap.size ≤ w'.heap.size) (hb : ∀ b, P b → b < w.heap.size → w'.heap[b]? = w.heap[b]?) (hq : ∀ b, P b → b < w.heap.size → Q b) : TR w' Q N' t x := by
  induction h with
  | var n h hN => exact .var n h (Nat.le_trans hN hn)
  | leaf c hw => exact .leaf c hw
  | row c L g cap xs hw h0 hL hP hz hc hr ih =>
    refine .row c L g cap xs hw h0 hL (hq g hP hz) (Nat.lt_of_lt_of_le hz hs) (fun i hi j hj => ?_) ih
    rw [World.cell?_of_block (a := ⟨g, i * 3 + j, none⟩) (w := w) (hb g hP hz)]
    exact hc i hi j hj
theorem TR.bel {w w' : World} {P : Nat → Prop} {N : Nat} {t : Ty} {x : TV} (h : TR w P N t x) (hb : Below w.heap.size w w') : TR w' P N t x := h.move (Nat.le_refl _) hb.size (fun b _ hz => hb.block b hz) (fun _ p _ => p)
theorem TR.on {w w' : World} {P : Nat → Prop} {N : Nat} {t : Ty} {x : TV} (h : TR w P N t x) (hb : ∀ b, P b → b < w.heap.size → b < w'.heap.size ∧ w'.heap[b]? = w.heap[b]?) : TR w' P N t x := by
  induction h with
  | var n h hN => exact .var n h hN
  | leaf c hw => exact .leaf c hw
  | row c L g cap xs hw h0 hL hP hz hc hr ih =>
    refine .row c L g cap xs hw h0 hL hP (hb g hP hz).1 (fun i hi j hj => ?_) ih
    rw [World.cell?_of_block (a := ⟨g, i * 3 + j, none⟩) (w := w) (hb g hP hz).2]
    exact hc i hi j hj
theorem TR.low {w : World} {P : Nat → Prop} {N : Nat} {t : Ty} {x : TV} (h : TR w P N t x) : TR w (fun b => P b ∧ b < w.heap.size) N t x := h.move (Nat.le_refl _) (Nat.le_refl _) (fun _ _ _ => rfl) (fun _ p z => ⟨p, z⟩)
theorem TR.high {w : World} {P : Nat → Prop} {n N : Nat} {t : Ty} {x : TV} (h : TR w (fun b => P b ∧ b < n) N t x) : TR w P N t x := h.move (Nat.le_refl _) (Nat.le_refl _) (fun _ _ _ => rfl) (fun _ p _ => p.1)
/-- Back to where a call began: its rows are all elder. -/
theorem TR.back {w w' : World} {P : Nat → Prop} {N : Nat} {t : Ty} {x : TV} (h : TR w' (fun b => P b ∧ b < w.heap.size) N t x) (hb : Below w.heap.size w w') : TR w (fun b => P b ∧ b < w.heap.size) N t x :=
  h.on fun b p _ => ⟨p.2, (hb.block b p.2).symm⟩
/-- What is known, as it lies in memory: the struct at kb, two rows. -/
structure KS (w : World) (kb : Nat) (hv iv : Value) (N : Nat) (K : Nat → Option Ty) (P : Nat → Prop) : Prop where
  c0 : w.cell? ⟨kb, 0, none⟩ = some hv
  c1 : w.cell? ⟨kb, 1, none⟩ = some iv
  fz : ∀ j, w.frozen? ⟨kb, j, none⟩ = false
  hk : kb < w.heap.size
  oh : w.ownsRow 0 4 1 hv N ((List.range N).map fun i => .bool (K (i + 1)).isSome)
  oi : ∃ xs : List TV, xs.length = N ∧ w.ownsRow 0 85 3 iv N (flat3 xs) ∧ ∀ i (h : i < xs.length) t, K (i + 1) = some t → TR w P N t xs[i]
  nh : hv.ownBlock ≠ some kb
  ni : iv.ownBlock ≠ some kb
  na : ∀ b, hv.ownBlock = some b → iv.ownBlock ≠ some b
  pk : ∀ b, P b → b ≠ kb ∧ hv.ownBlock ≠ some b ∧ iv.ownBlock ≠ some b
  hN : N ≤ 1000
  out : ∀ n, (n = 0 ∨ N < n) → K n = none

theorem KS.bel {w w' : World} {kb : Nat} {hv iv : Value} {N : Nat} {K : Nat → Option Ty} {P : Nat → Prop} (h : KS w kb hv iv N K P) (hb : Below w.heap.size w w') : KS w' kb hv iv N K P := by
  obtain ⟨xs, x1, x2, x3⟩ := h.oi
  exact ⟨by rw [oldCell hb _ _ h.hk]; exact h.c0, by rw [oldCell hb _ _ h.hk]; exact h.c1, fun j => by rw [oldMark hb _ _ h.hk]; exact h.fz j, Nat.lt_of_lt_of_le h.hk hb.size, own_below h.oh hb,
    ⟨xs, x1, own_below x2 hb, fun i hi t e => (x3 i hi t e).bel hb⟩, h.nh, h.ni, h.na, h.pk, h.hN, h.out⟩
theorem KS.low {w : World} {kb : Nat} {hv iv : Value} {N : Nat} {K : Nat → Option Ty} {P : Nat → Prop} (h : KS w kb hv iv N K P) : KS w kb hv iv N K (fun b => P b ∧ b < w.heap.size) := by
  obtain ⟨xs, x1, x2, x3⟩ := h.oi
  exact ⟨h.c0, h.c1, h.fz, h.hk, h.oh, ⟨xs, x1, x2, fun i hi t e => (x3 i hi t e).low⟩, h.nh, h.ni, h.na, fun b p => h.pk b p.1, h.hN, h.out⟩
/-- A cell of a row that is owned. -/
theorem own_cell {w : World} {base : Nat} {e : TypeId} {size : Nat} {g n cap : Nat} {xs : List Value} (h : w.ownsRow base e size (.slice (some ⟨g, 0, none⟩) n cap) n xs) (j : Nat) (hj : j < n * size) : w.cell? ⟨g, j, none⟩ = xs[j]? := by
  obtain ⟨h1, h2⟩ := h
  rcases h2 with ⟨h2, _⟩ | ⟨g', cap', cur, hv, hg, hh, r1, r2, r3, r4⟩
  · cases h2
  · cases hv
    rw [← r4, List.getElem?_take_of_lt hj]
    simp [World.cell?, hh]
theorem own_open {w : World} {base : Nat} {e : TypeId} {size : Nat} {v : Value} {n : Nat} {xs : List Value} (h : w.ownsRow base e size v n xs) (hn : 0 < n) : ∃ g cap, v = .slice (some ⟨g, 0, none⟩) n cap ∧ g < w.heap.size ∧ n ≤ cap := by
  obtain ⟨h1, h2⟩ := h
  rcases h2 with ⟨_, h2⟩ | ⟨g', cap', cur, hv, hg, hh, r1, r2, r3, r4⟩
  · omega
  · exact ⟨g', cap', hv, (Array.getElem?_eq_some_iff.1 hh).1, r1⟩
theorem own_mark {w : World} {base : Nat} {e : TypeId} {size : Nat} {g n cap : Nat} {xs : List Value} (h : w.ownsRow base e size (.slice (some ⟨g, 0, none⟩) n cap) n xs) (hn : 0 < n) (j : Nat) : w.frozen? ⟨g, j, none⟩ = false := by
  obtain ⟨h1, h2⟩ := h
  rcases h2 with ⟨h2, _⟩ | ⟨g', cap', cur, hv, hg, hh, r1, r2, r3, r4⟩
  · cases h2
  · cases hv
    simp [World.frozen?, hh]
/-- What is known of the n-th variable, cell by cell. -/
theorem KS.at {w : World} {kb : Nat} {hv iv : Value} {N : Nat} {K : Nat → Option Ty} {P : Nat → Prop} (h : KS w kb hv iv N K P) {n : Nat} (hn : 0 < n) (hN : n ≤ N) :
    ∃ gh ch gi ci x, hv = .slice (some ⟨gh, 0, none⟩) N ch ∧ iv = .slice (some ⟨gi, 0, none⟩) N ci ∧ gh < w.heap.size ∧ gi < w.heap.size ∧ w.cell? ⟨gh, n - 1, none⟩ = some (.bool (K n).isSome) ∧ at3 w gi (n - 1) x ∧ ∀ t, K n = some t → TR w P N t x := by
  obtain ⟨xs, x1, x2, x3⟩ := h.oi
  obtain ⟨gh, ch, e1, e2, _⟩ := own_open h.oh (by omega)
  obtain ⟨gi, ci, e3, e4, _⟩ := own_open x2 (by omega)
  have oh := h.oh
  rw [e1] at oh
  rw [e3] at x2
  have hn1 : n - 1 + 1 = n := by omega
  refine ⟨gh, ch, gi, ci, xs[n - 1]'(by omega), e1, e3, e2, e4, ?_, ?_, ?_⟩
  · rw [own_cell oh (n - 1) (by omega)]
    simp [List.getElem?_range (show n - 1 < N by omega), hn1]
  · intro j hj
    rw [own_cell x2 _ (by omega), flat3_at xs (n - 1) j (by omega) hj]
  · intro t e
    exact x3 (n - 1) (by omega) t (by rw [hn1]; exact e)
theorem KS.marks {w : World} {kb gh ch gi ci : Nat} {N : Nat} {K : Nat → Option Ty} {P : Nat → Prop} (h : KS w kb (.slice (some ⟨gh, 0, none⟩) N ch) (.slice (some ⟨gi, 0, none⟩) N ci) N K P) (hN : 0 < N) :
    (∀ j, w.frozen? ⟨gh, j, none⟩ = false) ∧ ∀ j, w.frozen? ⟨gi, j, none⟩ = false := by
  obtain ⟨xs, x1, x2, x3⟩ := h.oi
  exact ⟨own_mark h.oh hN, own_mark x2 hN⟩
end Go.Proofs.YtfflpeklkfjdnaaGreatDoor
