import Derived.Deep.RegionHeld3
import Derived.Test.YtfflpeklkfjdnaaGreatDoorKPure
import Derived.Test.YtfflpeklkfjdnaaGreatDoorKTp
import Derived.Test.YtfflpeklkfjdnaaGreatDoorKQa
import Derived.Test.YtfflpeklkfjdnaaGreatDoorKVb
set_option linter.unusedSimpArgs false
set_option linter.unusedVariables false
set_option linter.unusedSectionVars false
namespace Go.Proofs.YtfflpeklkfjdnaaGreatDoor
open Go Go.RowKit Go.ChangeMaps Un
def isF (c : ByteArray) : Bool := c.toList == [62]
def isP (c : ByteArray) : Bool := c.toList == [44]
def kd (c : ByteArray) : Nat := if isF c = true then 17 else if isP c = true then 6 else 2
mutual
/-- A type as a source could have it, its variables numbered. -/
def sp (a : List Nat) : Ty → Nd
  | .var n => .mk 16 (bs (39 :: vT ((Un.seen a n).idxOf n))) 0 [] 0 0 0
  | .con c l => .mk (kd c) c 0 (spL a l) 0 0 0
def spL (a : List Nat) : List Ty → List Nd
  | [] => []
  | t :: l => sp a t :: spL (vars a t) l
end
theorem isF_iff (c : ByteArray) : isF c = true ↔ c = nFn := by
  unfold isF
  rw [beq_iff_eq]
  exact ⟨fun h => toList_inj (h.trans (toList_mk [62]).symm), fun h => by rw [h]; exact toList_mk [62]⟩
theorem isP_iff (c : ByteArray) : isP c = true ↔ c = nPr := by
  unfold isP
  rw [beq_iff_eq]
  exact ⟨fun h => toList_inj (h.trans (toList_mk [44]).symm), fun h => by rw [h]; exact toList_mk [44]⟩
theorem conN_kd (c : ByteArray) : conN (kd c) c = c := by
  unfold conN kd
  by_cases h1 : isF c = true
  · simp [h1]; exact ((isF_iff c).1 h1).symm
  · by_cases h2 : isP c = true
    · simp [h1, h2]; exact ((isP_iff c).1 h2).symm
    · simp [h1, h2]
theorem kd_16 (c : ByteArray) : kd c ≠ 16 := by unfold kd; split; decide; split <;> decide
mutual
theorem wT_sp : ∀ (T : Ty) (a : List Nat), wT (sp a T) = wr dec (vars a T) T
  | .var n, a => by
    funext k
    simp only [sp, wT, if_true, wr, vars]
    rw [show (bs (39 :: vT ((Un.seen a n).idxOf n))).toList = 39 :: vT ((Un.seen a n).idxOf n) from toList_mk _]
    rfl
  | .con c l, a => by
    simp only [sp, wT, if_neg (kd_16 c), conN_kd, wr, vars]
    rw [wTL_sp l a]
theorem wTL_sp : ∀ (l : List Ty) (a : List Nat), wTL (spL a l) = wrA dec (varsL a l) l
  | [], a => rfl
  | t :: l, a => by
    simp only [spL, wTL, wrA, varsL]
    rw [wT_sp t a, wTL_sp l (vars a t), wr_vars_mid (varsL_pre l (vars a t))]
end
theorem spL_len : ∀ (l : List Ty) (a : List Nat), (spL a l).length = l.length
  | [], a => rfl
  | t :: l, a => by simp [spL, spL_len l]
theorem spL_take : ∀ (l : List Ty) (a : List Nat) (i : Nat) (h : i < l.length), spL a (l.take (i + 1)) = spL a (l.take i) ++ [sp (varsL a (l.take i)) l[i]] ∧ varsL a (l.take (i + 1)) = vars (varsL a (l.take i)) l[i]
  | [], a, i, h => by simp at h
  | t :: l, a, 0, h => by simp [spL, varsL]
  | t :: l, a, i + 1, h => by
    have := spL_take l (vars a t) i (by simpa using h)
    simp only [List.take_succ_cons, spL, varsL, this, List.getElem_cons_succ]
    simp
theorem varsL_appQ : ∀ (a b : List Ty) (x : List Nat), varsL x (a ++ b) = varsL (varsL x a) b
  | [], b, x => rfl
  | t :: a, b, x => by simp [varsL, varsL_appQ a b]
theorem varsL_take_le (l : List Ty) (a : List Nat) (i : Nat) : (varsL a (l.take i)).length ≤ (varsL a l).length := by
  have : varsL a l = varsL (varsL a (l.take i)) (l.drop i) := by
    rw [← varsL_appQ, List.take_append_drop]
  rw [this]
  exact (varsL_pre _ _).length_le
theorem PT0.by {w : World} {P : Nat → Prop} {nd : Nd} {v : Value} (h : PT0 w P nd v) : PT0 w (fun b => P b ∧ b < w.heap.size ∧ Nby w b) nd v := by
  induction h with
  | var s n f t a x y hq => exact .var s n f t a x y hq
  | fn s n a b f t at_ x y va vb _ _ iha ihb => exact .fn s n a b f t at_ x y va vb iha ihb
  | pr s n a b f t at_ x y va vb _ _ iha ihb => exact .pr s n a b f t at_ x y va vb iha ihb
  | up s n L f t at_ x y x' y' sa sc vs hu hrow hr ih =>
    refine .up s n L f t at_ x y x' y' sa sc vs hu ?_ ih
    rcases hrow with h0 | ⟨g, h1, hP, hz, hc⟩
    · exact Or.inl h0
    · by_cases hL : L = []
      · exact Or.inl hL
      · have hl : 0 < L.length := List.length_pos_iff.2 hL
        refine Or.inr ⟨g, h1, ⟨hP, hz, fun q hq c e => ?_⟩, hz, hc⟩
        obtain ⟨t', x'', hv⟩ := (hr 0 hl).iface'
        rw [hc 0 hl, hv] at hq
        cases hq
        cases e
/-- What can be written. -/
inductive WN : Nd → Prop where
  | var (s : ByteArray) (n f t a : Nat) (h : s.size ≤ 1000) : WN (.mk 16 s n [] f t a)
  | fn (s : ByteArray) (n : Nat) (x y : Nd) (f t a : Nat) (hx : WN x) (hy : WN y) : WN (.mk 17 s n [x, y] f t a)
  | pr (s : ByteArray) (n : Nat) (x y : Nd) (f t a : Nat) (hx : WN x) (hy : WN y) : WN (.mk 6 s n [x, y] f t a)
  | up (s : ByteArray) (n : Nat) (L : List Nd) (f t a : Nat) (h : s.size ≤ 1000) (hl : L.length ≤ 1001) (hL : ∀ i (h : i < L.length), WN L[i]) : WN (.mk 2 s n L f t a)
section
variable {w : World} {nb mb : Nat}
set_option maxRecDepth 100000 in
set_option maxHeartbeats 1000000 in
theorem made_fn (g sc : Nat) (va vb : Value) (ta tb : TypeId) (xa xb : Value) (ha : va = .iface ta xa) (hb : vb = .iface tb xb) (h0 : w.cell? ⟨g, 0, none⟩ = some va) (h1 : w.cell? ⟨g, 1, none⟩ = some vb) : Calls Tryz.prog 130 #[.string ⟨#[45, 62]⟩, .slice (some ⟨g, 0, none⟩) 2 sc] w fun e w' => e = .returned (.iface 267 (.agg #[.int .i64 0, .int .i64 0, va, vb])) ∧ Below w.heap.size w w' := by
  subst ha hb
  go_enter Tryz.func130, Tryz.ntmps130
  go_wp2_with fail
  go_region
  all_goals (
    go_wp2_with fail
    go_ret
    exact ⟨rfl, (Below.refl _ _).drew⟩)
set_option maxRecDepth 100000 in
set_option maxHeartbeats 1000000 in
theorem made_pr (g sc : Nat) (va vb : Value) (ta tb : TypeId) (xa xb : Value) (ha : va = .iface ta xa) (hb : vb = .iface tb xb) (h0 : w.cell? ⟨g, 0, none⟩ = some va) (h1 : w.cell? ⟨g, 1, none⟩ = some vb) : Calls Tryz.prog 130 #[.string ⟨#[44]⟩, .slice (some ⟨g, 0, none⟩) 2 sc] w fun e w' => e = .returned (.iface 269 (.agg #[.int .i64 0, .int .i64 0, va, vb])) ∧ Below w.heap.size w w' := by
  subst ha hb
  go_enter Tryz.func130, Tryz.ntmps130
  go_wp2_with fail
  go_region
  all_goals (
    go_wp2_with fail
    go_ret
    exact ⟨rfl, (Below.refl _ _).drew⟩)
set_option maxRecDepth 100000 in
set_option maxHeartbeats 1000000 in
theorem made_up (c : ByteArray) (hu : UpN c) (sa : Option Addr) (n sc : Nat) : Calls Tryz.prog 130 #[.string c, .slice sa n sc] w fun e w' => e = .returned (.iface 272 (.agg #[.int .i64 0, .int .i64 0, .int .i64 0, .int .i64 0, .string c, .slice sa n sc])) ∧ Below w.heap.size w w' := by
  have h1 : (c.toList == [45, 62]) = false := by rw [← Bool.not_eq_true, beq_iff_eq]; exact upN_ne hu 45 [62] (by decide)
  have h2 : (c.toList == [44]) = false := by rw [← Bool.not_eq_true, beq_iff_eq]; exact upN_ne hu 44 [] (by decide)
  go_enter Tryz.func130, Tryz.ntmps130
  go_wp2_with fail
  go_ret
  exact ⟨rfl, Below.refl _ _⟩
def SpPost (nb mb : Nat) (nd : Nd) (a' : List Nat) (w : World) (e : Ending) (w' : World) : Prop :=
  ∃ u, e = .returned u ∧ PT0 w' (fun b => w.heap.size ≤ b) nd u ∧ NB w' nb mb a' ∧ Fr (fun b => b = mb) w w'
def SpC (T : Ty) : Prop := ∀ (w : World) (nb mb : Nat) (a : List Nat) (P : Nat → Prop) (v : Value), TyV w P T v → NB w nb mb a → (∀ b, P b → b ≠ mb) → Wf T → (vars a T).length ≤ 48 → sizeL [T] ≤ 1000 →
  Calls Tryz.prog 66 #[v, nbV nb] w (SpPost nb mb (sp a T) (vars a T) w)
theorem taT_VV (a : Int) (w : World) : (Instr.typeAssert (.iface 157 (.int .i64 a)) 66 157 true).run Tryz.prog w = .ok (.tuple #[.int .i64 a, .bool true]) w := by kernel_rfl
theorem taT_MV (a b : Value) (w : World) : (Instr.typeAssert (.iface 275 (.agg #[a, b])) 66 157 true).run Tryz.prog w = .ok (.tuple #[.int .i64 0, .bool false]) w := by kernel_rfl
set_option maxRecDepth 100000 in
set_option maxHeartbeats 1000000 in
theorem sp_var (n : Nat) : SpC (.var n) := by
  intro w nb mb a P v h hN hP hW hv hs
  cases h
  simp only [vars] at hv
  have h1 := taT_VV
  have HC := number_C' hN n hv
  go_enter Tryz.func66, Tryz.ntmps66
  go_wp2_with fail
  refine HC.mono ?_
  rintro e w1 ⟨rfl, N1, F1⟩
  go_wp2_with fail
  go_ret
  refine ⟨_, rfl, ?_, N1, F1⟩
  have hq : Quo (bs (39 :: vT ((Un.seen a n).idxOf n))) := ⟨_, toList_mk _⟩
  have ht : bs (vT ((Un.seen a n).idxOf n)) = (bs (39 :: vT ((Un.seen a n).idxOf n))).extract 1 (bs (39 :: vT ((Un.seen a n).idxOf n))).size := by
    apply toList_inj
    have := tl_list (s := bs (39 :: vT ((Un.seen a n).idxOf n))) (toList_mk _)
    unfold tl at this
    rw [this]
    exact toList_mk _
  rw [ht]
  exact .var _ _ _ _ _ _ _ hq
/-- What holds ahead of each round of spelled. -/
def SpRel (nb mb : Nat) (a : List Nat) (L : List Ty) (w : World) (pb : Nat) (sb : Nat) (M : Array Value) (gk : Nat) (v : Value) (wr : World) : Prop :=
  ∃ (j : Nat) (C : Array Value), Hid (gk = L.length - j) ∧ j ≤ L.length ∧ v = .int .i64 (j : Int) ∧ NB wr nb mb (varsL a (L.take j)) ∧ Fr (fun b => b = mb) w wr ∧ Bx wr pb C ∧ Bx wr sb M ∧ Hid (C.size = L.length) ∧
    Hid (∀ i (h : i < (spL a (L.take j)).length), ∃ u, C[i]? = some u ∧ PT0 wr (fun b => pb < b ∧ b < wr.heap.size) (spL a (L.take j))[i] u)
end
end Go.Proofs.YtfflpeklkfjdnaaGreatDoor
namespace Go.Proofs.YtfflpeklkfjdnaaGreatDoor
open Go Go.RowKit Go.ChangeMaps Un
section
variable {w : World} {nb mb : Nat}
theorem NB.lt {L : List Nat} (h : NB w nb mb L) : nb < w.heap.size ∧ mb < w.heap.size := ⟨h.bk.z, h.mp.lt⟩
theorem NB.set {L : List Nat} (h : NB w nb mb L) {b : Nat} (h1 : b ≠ nb) (h2 : b ≠ mb) (j : Nat) (v : Value) : NB (w.setCell ⟨b, j, none⟩ v) nb mb L :=
  ⟨h.bk.setO'' h1.symm j v, h.mp.setC h2.symm j v, h.ne⟩
set_option maxRecDepth 100000 in
set_option maxHeartbeats 2000000 in
theorem sp_con (c : ByteArray) (L : List Ty) (IH : ∀ i (h : i < L.length), SpC L[i]) : SpC (.con c L) := by
  intro w nb mb a P v h hN hP hW hv hs
  cases h with
  | con c L sa sc vs hc hrow hr =>
  obtain ⟨i0, hi0, hz0, hz1, hz2⟩ := info_parts treeInfo
  have hsz : sizeL L ≤ 1000 := by simp [sizeL, size] at hs; omega
  have hLl := len_sizeL L
  have hmk := run_make1 (by_ := 16) treesUnder hi0 hz0 rfl hz1 hz2 (by decide) L.length (by omega)
  obtain ⟨hok, hWL⟩ := hW
  rw [WfL_iff] at hWL
  simp only [vars] at hv
  have h1 := taT_MV
  have h2 := taT_MM
  have hlt := hN.lt
  have HN := hide hN
  have HR := hide hr
  have HI := hide IH
  have HW := hide hrow
  have Hok := hide hok
  clear hN hr IH hrow hok
  have hb0 : Below w.heap.size w ((w.alloc (.cells #[.string (pn c), .slice sa L.length sc] 275)).alloc (.cells (Array.replicate L.length .nilIface) 151)) := ((Below.refl _ _).alloc (Nat.le_refl _) _).alloc (by simp) _
  have XM := hide ((Bx.new w #[.string (pn c), .slice sa L.length sc] 275).alloc (.cells (Array.replicate L.length .nilIface) 151))
  obtain ⟨cm, fm, zm⟩ := unhide XM
  go_enter Tryz.func66, Tryz.ntmps66
  go_wp2_with fail
  go_loopg [29] L.length (fun gk v wr => SpRel nb mb a L w (w.heap.size + 1) w.heap.size #[.string (pn c), .slice sa L.length sc] gk v wr)
  case atStart =>
    have BP : Bx ((w.alloc (.cells #[.string (pn c), .slice sa L.length sc] 275)).alloc (.cells (Array.replicate L.length .nilIface) 151)) (w.heap.size + 1) (Array.replicate L.length .nilIface) := by have := Bx.new (w.alloc (.cells #[.string (pn c), .slice sa L.length sc] 275)) (Array.replicate L.length .nilIface) 151; simpa using this
    refine ⟨0, Array.replicate L.length .nilIface, hide (by simp), Nat.zero_le _, rfl, ?_, Fr.of hb0, BP, unhide XM, hide (by simp), hide (fun i hi => absurd hi (by simp [spL]))⟩
    simpa [varsL] using (unhide HN).bel hb0
  case round =>
    obtain ⟨j, C, hgk, hj, rfl, N1, F1, B1, BM, hC, hT⟩ := hrel
    have zw := F1.size
    have n1 := N1.lt
    have zpb := B1.z
    by_cases hjl : j < L.length
    · have hd : (j : Int) < (L.length : Int) := by omega
      obtain ⟨g, rfl, hg, hgz, hcell⟩ : ∃ g, sa = some ⟨g, 0, none⟩ ∧ P g ∧ g < w.heap.size ∧ ∀ i, i < L.length → w.cell? ⟨g, i, none⟩ = some (vs i) := by
        rcases unhide HW with h0 | h0
        · subst h0; simp at hjl
        · exact h0
      have cg : wr.cell? ⟨g, j, none⟩ = some (vs j) := (World.cell?_of_block (a := ⟨g, j, none⟩) (F1.block g hgz (hP g hg))).trans (hcell j hjl)
      have TJ := (unhide HR j hjl).fr F1 (fun b p _ => hP b p)
      obtain ⟨tv, xv, hv'⟩ := TJ.iface
      obtain ⟨mt1, mt2⟩ := spL_take L a j hjl
      have hnj : (vars (varsL a (L.take j)) L[j]).length ≤ 48 := by rw [← mt2]; exact Nat.le_trans (varsL_take_le L a (j + 1)) hv
      have hsj : sizeL [L[j]] ≤ 1000 := by
        have e1 := sizeL_takeQ L j hjl
        have e2 := sizeL_take_le L (j + 1)
        simp [sizeL]; omega
      have HC := unhide HI j hjl wr nb mb _ P (vs j) TJ N1 hP (hWL _ (List.getElem_mem hjl)) hnj hsj
      rw [hv'] at cg HC
      go_wp2_with fail
      refine HC.mono ?_
      rintro e w1 ⟨u, rfl, hU, N2, F2⟩
      obtain ⟨tu, xu, rfl⟩ := hU.iface'
      have hpm : w.heap.size + 1 ≠ mb := by omega
      have B2 := B1.fr F2 hpm
      have hjC : j < C.size := by rw [unhide hC]; exact hjl
      have cj : w1.cell? ⟨w.heap.size + 1, j, none⟩ = some C[j] := (B2.c j).trans (Array.getElem?_eq_getElem hjC)
      have fj := B2.f j
      have B3 := hide (B2.setS' j (.iface tu (.agg xu)) (C.setIfInBounds j (.iface tu (.agg xu))) rfl hjC)
      have BM2 := hide ((BM.fr F2 (show ¬ w.heap.size = mb by omega)).setO'' (show w.heap.size ≠ w.heap.size + 1 by omega) j (.iface tu (.agg xu)))
      have HU := hide hU
      have HN2 := hide N2
      have HF2 := hide (F1.trans F2)
      have HF := hide F2
      have z2 := F2.size
      clear HC hU N2 F2 B2 cg TJ
      go_wp2_with fail
      go_roundg (L.length - (j + 1))
      case measure => rw [unhide hgk]; omega
      case rel =>
        have lenT : (spL a (L.take j)).length = j := by rw [spL_len]; simp; omega
        refine ⟨j + 1, C.setIfInBounds j (.iface tu (.agg xu)), hide rfl, by omega, by go_num, ?_, ?_, unhide B3, unhide BM2, hide (by simp; exact unhide hC), hide (fun i hi => ?_)⟩
        · rw [mt2]
          exact (unhide HN2).set (by omega) (by omega) j _
        · exact (unhide HF2).set (Or.inr (by omega)) j _
        · have hst : ∀ b, w.heap.size + 1 < b → b < w1.heap.size → (w1.setCell ⟨w.heap.size + 1, j, none⟩ (.iface tu (.agg xu))).heap[b]? = w1.heap[b]? := fun b hb _ => Below.heap_setCell _ _ _ _ (by show b ≠ w.heap.size + 1; omega)
          have hss : (w1.setCell ⟨w.heap.size + 1, j, none⟩ (.iface tu (.agg xu))).heap.size = w1.heap.size := by simp [World.setCell]
          have hi' : i < j + 1 := by rw [mt1] at hi; simp [lenT] at hi; omega
          by_cases e : i = j
          · subst e
            refine ⟨.iface tu (.agg xu), by simp [hjC], ?_⟩
            have e1 : (spL a (L.take (i + 1)))[i]'hi = sp (varsL a (L.take i)) L[i] := by
              have : (spL a (L.take (i + 1)))[i]? = some (sp (varsL a (L.take i)) L[i]) := by rw [mt1, List.getElem?_append_right (by omega)]; simp [lenT]
              rw [List.getElem?_eq_getElem hi] at this
              exact Option.some.inj this
            rw [e1]
            exact (unhide HU).by.move (by omega) (fun b p z => hst b (by have : wr.heap.size ≤ b := p.1; omega) z) (fun b p z => ⟨by have : wr.heap.size ≤ b := p.1; omega, by omega⟩)
          · have hi2 : i < (spL a (L.take j)).length := by omega
            obtain ⟨u', hu1, hu2⟩ := unhide hT i hi2
            have e1 : (spL a (L.take (j + 1)))[i]'hi = (spL a (L.take j))[i]'hi2 := by
              have : (spL a (L.take (j + 1)))[i]? = some ((spL a (L.take j))[i]'hi2) := by rw [mt1, List.getElem?_append_left hi2, List.getElem?_eq_getElem hi2]
              rw [List.getElem?_eq_getElem hi] at this
              exact Option.some.inj this
            refine ⟨u', by rw [Array.getElem?_setIfInBounds_ne (by omega)]; exact hu1, ?_⟩
            rw [e1]
            have h3 := hu2.fr (unhide HF) (fun b p _ q => by subst q; omega)
            exact h3.move (by omega) (fun b p z => hst b p.1 z) (fun b p z => ⟨p.1, by omega⟩)
    · have hd : decide ((j : Int) < (L.length : Int)) = false := by simp; omega
      have ej : j = L.length := by omega
      subst ej
      rw [List.take_length] at N1 hT
      obtain ⟨cw, fw, zw'⟩ := BM
      have hsl := spL_len L a
      have hCs : C.size = L.length := unhide hC
      rcases hc with rfl | rfl | hu
      · have h2L : L.length = 2 := (unhide Hok).2 (Or.inl rfl)
        obtain ⟨u0, hu0, hp0⟩ := unhide hT 0 (by omega)
        obtain ⟨u1, hu1, hp1⟩ := unhide hT 1 (by omega)
        obtain ⟨t0, x0, rfl⟩ := hp0.iface'
        obtain ⟨t1, x1, rfl⟩ := hp1.iface'
        have HC := made_fn (w := wr) (w.heap.size + 1) L.length (.iface t0 (.agg x0)) (.iface t1 (.agg x1)) t0 t1 (.agg x0) (.agg x1) rfl rfl ((B1.c 0).trans hu0) ((B1.c 1).trans hu1)
        rw [pn_fn] at cw
        rw [h2L] at HC
        go_wp2_with fail
        rw [h2L]
        refine HC.mono ?_
        rintro e w9 ⟨rfl, hb9⟩
        go_wp2_with fail
        go_ret
        refine ⟨_, rfl, ?_, N1.bel hb9, F1.trans (Fr.of hb9)⟩
        have esp : sp a (.con nFn L) = .mk 17 nFn 0 [(spL a L)[0]'(by omega), (spL a L)[1]'(by omega)] 0 0 0 := by
          have hk : kd nFn = 17 := by unfold kd; rw [if_pos ((isF_iff nFn).2 rfl)]
          simp only [sp, hk]
          congr 1
          apply List.ext_getElem
          · simp; omega
          · intro i h1 h2
            have : i = 0 ∨ i = 1 := by simp at h2; omega
            rcases this with rfl | rfl <;> rfl
        rw [esp]
        exact .fn _ _ _ _ _ _ _ _ _ _ _ ((hp0.bel hb9).wide fun b p => by show w.heap.size ≤ b; omega) ((hp1.bel hb9).wide fun b p => by show w.heap.size ≤ b; omega)
      · have h2L : L.length = 2 := (unhide Hok).2 (Or.inr rfl)
        obtain ⟨u0, hu0, hp0⟩ := unhide hT 0 (by omega)
        obtain ⟨u1, hu1, hp1⟩ := unhide hT 1 (by omega)
        obtain ⟨t0, x0, rfl⟩ := hp0.iface'
        obtain ⟨t1, x1, rfl⟩ := hp1.iface'
        have HC := made_pr (w := wr) (w.heap.size + 1) L.length (.iface t0 (.agg x0)) (.iface t1 (.agg x1)) t0 t1 (.agg x0) (.agg x1) rfl rfl ((B1.c 0).trans hu0) ((B1.c 1).trans hu1)
        rw [pn_pr] at cw
        rw [h2L] at HC
        go_wp2_with fail
        rw [h2L]
        refine HC.mono ?_
        rintro e w9 ⟨rfl, hb9⟩
        go_wp2_with fail
        go_ret
        refine ⟨_, rfl, ?_, N1.bel hb9, F1.trans (Fr.of hb9)⟩
        have esp : sp a (.con nPr L) = .mk 6 nPr 0 [(spL a L)[0]'(by omega), (spL a L)[1]'(by omega)] 0 0 0 := by
          have hne : ¬ nPr = nFn := by intro e; have := congrArg ByteArray.toList e; rw [show nPr.toList = [44] from toList_mk [44], show nFn.toList = [62] from toList_mk [62]] at this; simp at this
          have hk : kd nPr = 6 := by unfold kd; rw [if_neg (fun q => hne ((isF_iff nPr).1 q)), if_pos ((isP_iff nPr).2 rfl)]
          simp only [sp, hk]
          congr 1
          apply List.ext_getElem
          · simp; omega
          · intro i h1 h2
            have : i = 0 ∨ i = 1 := by simp at h2; omega
            rcases this with rfl | rfl <;> rfl
        rw [esp]
        exact .pr _ _ _ _ _ _ _ _ _ _ _ ((hp0.bel hb9).wide fun b p => by show w.heap.size ≤ b; omega) ((hp1.bel hb9).wide fun b p => by show w.heap.size ≤ b; omega)
      · have HC := made_up (w := wr) c hu (some ⟨w.heap.size + 1, 0, none⟩) L.length L.length
        rw [pn_up hu] at cw
        go_wp2_with fail
        refine HC.mono ?_
        rintro e w9 ⟨rfl, hb9⟩
        go_wp2_with fail
        go_ret
        refine ⟨_, rfl, ?_, N1.bel hb9, F1.trans (Fr.of hb9)⟩
        have hk : kd c = 2 := by
          unfold kd
          rw [if_neg (fun q => upN_ne hu 62 [] (by decide) (by rw [(isF_iff c).1 q]; exact toList_mk [62])), if_neg (fun q => upN_ne hu 44 [] (by decide) (by rw [(isP_iff c).1 q]; exact toList_mk [44]))]
        simp only [sp, hk]
        rw [← hsl]
        refine .up c 0 (spL a L) 0 0 0 0 0 0 0 _ _ (fun i => C.getD i .nilIface) hu (Or.inr ⟨w.heap.size + 1, rfl, by show w.heap.size ≤ w.heap.size + 1; omega, Nat.lt_of_lt_of_le B1.z hb9.size, fun i hi => ?_⟩) (fun i hi => ?_)
        · obtain ⟨u, hu', _⟩ := unhide hT i hi
          rw [World.cell?_of_block (a := ⟨w.heap.size + 1, i, none⟩) (hb9.block _ B1.z), B1.c i, hu']
          simp [Array.getD_eq_getD_getElem?, hu']
        · obtain ⟨u, hu', hty⟩ := unhide hT i hi
          have : C.getD i .nilIface = u := by simp [Array.getD_eq_getD_getElem?, hu']
          rw [this]
          exact (hty.bel hb9).wide fun b p => by show w.heap.size ≤ b; omega
theorem spelled_C : ∀ (T : Ty), SpC T
  | .var n => sp_var n
  | .con c L => sp_con c L fun i h => spelled_C L[i]
termination_by T => SizeOf.sizeOf T
decreasing_by
  have h2 := List.sizeOf_lt_of_mem (List.getElem_mem h)
  simp
  omega
end
end Go.Proofs.YtfflpeklkfjdnaaGreatDoor
namespace Go.Proofs.YtfflpeklkfjdnaaGreatDoor
open Go Go.RowKit Go.ChangeMaps Un
theorem vT_len (i : Nat) (h : i ≤ 900) : (bs (39 :: vT i)).size ≤ 1000 := by
  rw [bs_size]
  have := dec_len i
  simp [vT]
  omega
theorem two_of {α : Type} {l : List α} (h : l.length = 2) : ∃ x y, l = [x, y] := by
  match l, h with
  | [x, y], _ => exact ⟨x, y, rfl⟩
theorem spL_app : ∀ (x y : List Ty) (a : List Nat), spL a (x ++ y) = spL a x ++ spL (varsL a x) y
  | [], y, a => rfl
  | t :: x, y, a => by simp [spL, varsL, spL_app x y]
theorem spL_at (l : List Ty) (a : List Nat) (i : Nat) (h : i < l.length) : (spL a l)[i]'(by rw [spL_len]; exact h) = sp (varsL a (l.take i)) l[i] := by
  have h1 := (spL_take l a i h).1
  have h2 : (spL a l)[i]? = (spL a (l.take (i + 1)))[i]? := by
    have e : spL a l = spL a (l.take (i + 1)) ++ spL (varsL a (l.take (i + 1))) (l.drop (i + 1)) := by
      rw [← spL_app, List.take_append_drop]
    rw [e, List.getElem?_append_left (by rw [spL_len]; simp; omega)]
  rw [h1, List.getElem?_append_right (by rw [spL_len]; simp; omega), spL_len] at h2
  rw [List.getElem?_eq_getElem (by rw [spL_len]; exact h)] at h2
  have h3 : i - (l.take i).length = 0 := by simp; omega
  rw [h3] at h2
  exact Option.some.inj h2
theorem WN.sp {w : World} {P : Nat → Prop} {T : Ty} {v : Value} (h : TyV w P T v) : Wf T → size T ≤ 900 → ∀ a, (vars a T).length ≤ 900 → WN (sp a T) := by
  induction h with
  | var n =>
    intro _ _ a hv
    simp only [vars] at hv
    refine .var _ _ _ _ _ (vT_len _ ?_)
    have : (Un.seen a n).idxOf n < (Un.seen a n).length := List.idxOf_lt_length_iff.2 (by unfold Un.seen; split <;> simp [*])
    omega
  | con c L sa sc vs hc hrow hr ih =>
    intro hW hs a hv
    obtain ⟨hok, hWL⟩ := hW
    rw [WfL_iff] at hWL
    simp only [size] at hs
    simp only [vars] at hv
    have key : ∀ i (h : i < L.length), WN ((spL a L)[i]'(by rw [spL_len]; exact h)) := fun i hi => by
      rw [spL_at L a i hi]
      have e1 := sizeL_takeQ L i hi
      have e2 := sizeL_take_le L (i + 1)
      refine ih i hi (hWL _ (List.getElem_mem hi)) (by omega) _ ?_
      rw [← (spL_take L a i hi).2]
      exact Nat.le_trans (varsL_take_le L a (i + 1)) hv
    have hl := len_sizeL L
    rcases hc with rfl | rfl | hu
    · have h2 : (spL a L).length = 2 := by rw [spL_len]; exact hok.2 (Or.inl rfl)
      have hL2 : L.length = 2 := hok.2 (Or.inl rfl)
      obtain ⟨x, y, e⟩ := two_of h2
      have hk : kd nFn = 17 := by unfold kd; rw [if_pos ((isF_iff nFn).2 rfl)]
      simp only [Go.Proofs.YtfflpeklkfjdnaaGreatDoor.sp, hk]
      have k0 := key 0 (by omega)
      have k1 := key 1 (by omega)
      simp only [e] at k0 k1 ⊢
      exact .fn _ _ _ _ _ _ _ k0 k1
    · have h2 : (spL a L).length = 2 := by rw [spL_len]; exact hok.2 (Or.inr rfl)
      have hL2 : L.length = 2 := hok.2 (Or.inr rfl)
      obtain ⟨x, y, e⟩ := two_of h2
      have hne : ¬ nPr = nFn := by intro e; have := congrArg ByteArray.toList e; rw [show nPr.toList = [44] from toList_mk [44], show nFn.toList = [62] from toList_mk [62]] at this; simp at this
      have hk : kd nPr = 6 := by unfold kd; rw [if_neg (fun q => hne ((isF_iff nPr).1 q)), if_pos ((isP_iff nPr).2 rfl)]
      simp only [Go.Proofs.YtfflpeklkfjdnaaGreatDoor.sp, hk]
      have k0 := key 0 (by omega)
      have k1 := key 1 (by omega)
      simp only [e] at k0 k1 ⊢
      exact .pr _ _ _ _ _ _ _ k0 k1
    · have hk : kd c = 2 := by
        unfold kd
        rw [if_neg (fun q => upN_ne hu 62 [] (by decide) (by rw [(isF_iff c).1 q]; exact toList_mk [62])), if_neg (fun q => upN_ne hu 44 [] (by decide) (by rw [(isP_iff c).1 q]; exact toList_mk [44]))]
      simp only [Go.Proofs.YtfflpeklkfjdnaaGreatDoor.sp, hk]
      refine .up _ _ _ _ _ _ hok.1 (by rw [spL_len]; omega) (fun i hi => key i (by rw [spL_len] at hi; exact hi))
theorem TyV.wr_ne {w : World} {P : Nat → Prop} {T : Ty} {v : Value} (h : TyV w P T v) (L : List Nat) : wr dec L T 0 ≠ [] := by
  cases h with
  | var n => simp [wr]
  | con c l sa sc vs hc hrow hr =>
    simp only [wr]
    unfold joined
    split
    · unfold Un.par; simp
    · split
      · simp
      · rename_i h1 h2
        rcases hc with rfl | rfl | hu
        · exact absurd rfl h1
        · exact absurd rfl h2
        · obtain ⟨x, r, e, _⟩ := hu
          unfold Un.par
          simp [e]
section
variable {w : World}
set_option maxRecDepth 100000 in
set_option maxHeartbeats 1000000 in
theorem penOp_C (p : Addr) (x y z : Int) : Calls Tryz.prog 188 #[.pointer (some p), .int .i64 x, .int .i64 y, .int .i64 z] w fun e w' => (∃ v, e = .returned v) ∧ Below w.heap.size w w' := by
  have hmf : ∀ (fn : Fn) (first cap : Array Value) (w : World), (Instr.makeFunc fn first cap).run Tryz.prog w = .ok (.func fn first cap) w := fun _ _ _ _ => rfl
  go_enter Tryz.func188, Tryz.ntmps188
  go_wp2_with fail
  go_ret
  exact ⟨⟨_, rfl⟩, ((((Below.refl _ _).alloc (Nat.le_refl _) _).alloc (by simp) _).alloc (by simp; omega) _).alloc (by simp; omega) _⟩
set_option maxRecDepth 100000 in
set_option maxHeartbeats 1000000 in
theorem penRules_C (p : Addr) : Calls Tryz.prog 106 #[.pointer (some p)] w (RulesPost w) := by
  have H := hide (Ma.new (w := w))
  have HB := hide ((Below.refl w.heap.size w).alloc (Nat.le_refl _) (.map #[] 0))
  have hmm := @run_makeMap Tryz.prog
  go_enter Tryz.func106, Tryz.ntmps106
  go_wp2_with (first | (refine wpList_put _ rfl _ _ _ _ (Or.inl rfl) (KL.str Tryz.underlying9) Tryz.underlying135 _ _ rfl (unhide H) _ _ rfl rfl trivial (fun _ _ => trivial) ?_; clear H; intro w' H' O'; have H := hide H'; have HB := hide (One.below (unhide HB) O' (by exact Nat.le_refl _)); clear H' O') | (go_at_call 188; refine (penOp_C _ _ _ _).mono ?_; rintro e w' ⟨⟨v, rfl⟩, hb⟩; have H := hide ((unhide H).below hb); have HB := hide ((unhide HB).trans (hb.mono (unhide HB).size)); clear hb))
  go_ret
  exact ⟨_, rfl, by simp, unhide HB⟩
set_option maxRecDepth 100000 in
set_option maxHeartbeats 1000000 in
theorem newPen_C : Calls Tryz.prog 47 #[] w fun e w' => e = .returned (.pointer (some ⟨w.heap.size, 0, none⟩)) ∧ (∃ mv, PN w' w.heap.size w.heap.size (.slice none 0 0) [] ⟨#[]⟩ mv) ∧ Below w.heap.size w w' := by
  have hb0 : Below w.heap.size w (w.alloc (.cells #[.pointer none, .slice none 0 0, .string ⟨#[]⟩, .map none] 137)) := (Below.refl _ _).alloc (Nat.le_refl _) _
  have h0 : (w.alloc (.cells #[.pointer none, .slice none 0 0, .string ⟨#[]⟩, .map none] 137)).heap[w.heap.size]? = some (.cells #[.pointer none, .slice none 0 0, .string ⟨#[]⟩, .map none] 137 (0, 0)) := (MapKept.heap_alloc w _).1
  have H0 := hide h0
  clear h0
  go_enter Tryz.func47, Tryz.ntmps47
  go_wp2_with (go_at_call 106; refine (penRules_C _).mono ?_; rintro e w1 ⟨b, rfl, hle, hb⟩; have h1 : w1.heap[w.heap.size]? = some (.cells #[.pointer none, .slice none 0 0, .string ⟨#[]⟩, .map none] 137 (0, 0)) := (hb.block _ (by simp)).trans (unhide H0); have c3 : w1.cell? ⟨w.heap.size, 3, none⟩ = some (.map none) := (by simp [World.cell?, h1]); have f3 : w1.frozen? ⟨w.heap.size, 3, none⟩ = false := (by simp [World.frozen?, h1]); have H1 := hide h1; have HB1 := hide (hb0.trans (hb.mono hb0.size)); clear h1 hb)
  go_ret
  have hz := (unhide HB1).size
  exact ⟨rfl, ⟨.map (some b), ⟨_, (setCell_heap (unhide H1) 3 _).trans (by simp), Or.inl rfl⟩, ⟨rfl, Or.inl ⟨rfl, rfl⟩⟩, fun _ => rfl, by simp [World.setCell]; exact hz⟩, (unhide HB1).setCell (p := ⟨w.heap.size, 3, none⟩) (Nat.le_refl _) _⟩
end
end Go.Proofs.YtfflpeklkfjdnaaGreatDoor
namespace Go.Proofs.YtfflpeklkfjdnaaGreatDoor
open Go Go.RowKit Go.ChangeMaps Un
def byS : Option (ByteArray × List Nat) → ByteArray
  | none => ⟨#[]⟩
  | some (c, _) => pn c
abbrev nA (n : Nat) : Value := .pointer (some ⟨n, 0, none⟩)
def nP : Option Nat → Value
  | none => .pointer none
  | some m => nA m
def slN : Option (ByteArray × List Nat) → Nat
  | none => 0
  | some (_, l) => l.length
def PartsAt (w : World) (ds : List Nat) (sa : Option Addr) : Option (ByteArray × List Nat) → Prop
  | none => True
  | some (c, l) => CN c ∧ l.length ≤ 1001 ∧ (∀ m ∈ l, m ∈ ds) ∧ (l = [] ∨ ∃ g, sa = some ⟨g, 0, none⟩ ∧ ¬ g ∈ ds ∧ g < w.heap.size ∧ ∀ i (h : i < l.length), w.cell? ⟨g, i, none⟩ = some (nA l[i]))
/-- A node in memory. -/
def NodeAt (w : World) (ds : List Nat) (str : Str) (nx : Nx) (vr : Nat → Nat) (ly : Nat → Option Addr × Nat) (n : Nat) : Prop :=
  w.heap[n]? = some (.cells #[nP (nx n), .int .i64 0, .int .i64 (vr n : Int), .string (byS (str n)), .slice (ly n).1 (slN (str n)) (ly n).2] 294 (0, 0)) ∧ PartsAt w ds (ly n).1 (str n) ∧ ∀ m, nx n = some m → m ∈ ds
/-- Nodes in memory. -/
structure GN (w : World) (ds : List Nat) (str : Str) (nx : Nx) (vr : Nat → Nat) (ly : Nat → Option Addr × Nat) : Prop where
  nd : ∀ n, n ∈ ds → NodeAt w ds str nx vr ly n
  out : ∀ n, ¬ n ∈ ds → nx n = none ∧ str n = none
  hd : ∀ n, n ∈ ds → ∃ h, Hd nx n h
/-- How far it is to the head. -/
inductive HdL (nx : Nx) : Nat → Nat → Nat → Prop where
  | here {n : Nat} : nx n = none → HdL nx n n 0
  | step {n m h k : Nat} : nx n = some m → HdL nx m h k → HdL nx n h (k + 1)
theorem Hd.len {nx : Nx} {n h : Nat} (k : Hd nx n h) : ∃ j, HdL nx n h j := by
  induction k with
  | here e => exact ⟨0, .here e⟩
  | step e _ ih => obtain ⟨j, hj⟩ := ih; exact ⟨j + 1, .step e hj⟩
theorem HdL.hd {nx : Nx} {n h j : Nat} (k : HdL nx n h j) : Hd nx n h := by
  induction k with
  | here e => exact .here e
  | step e _ ih => exact .step e ih
theorem HdL.one {nx : Nx} {n h j h' j' : Nat} (k : HdL nx n h j) (k' : HdL nx n h' j') : j = j' := by
  induction k generalizing j' with
  | here e => cases k' with
    | here => rfl
    | step e' _ => rw [e] at e'; cases e'
  | step e _ ih => cases k' with
    | here e' => rw [e] at e'; cases e'
    | step e' k' => rw [e] at e'; cases e'; rw [ih k']
theorem HdL.upd {nx : Nx} {x h j : Nat} (k : HdL nx x h j) {n hn jn : Nat} (kn : HdL nx n hn jn) (hlt : j < jn) (v : Option Nat) : HdL (upd nx n v) x h j := by
  induction k with
  | @here x e =>
    have : x ≠ n := fun q => by subst q; have := (HdL.here e).one kn; omega
    exact .here (by simpa [Un.upd, this] using e)
  | @step x m h k e kk ih =>
    have : x ≠ n := fun q => by subst q; have := (HdL.step e kk).one kn; omega
    exact .step (m := m) (by simpa [Un.upd, this] using e) (ih (by omega))
/-- What stays where ways get shorter. -/
structure Eqv (str : Str) (nx nx' : Nx) : Prop where
  sol : ∀ V, Sol str nx' V ↔ Sol str nx V
  clo : ∀ P, Clo str nx P → Clo str nx' P
  eqs : ∀ P E, Un.Eq nx' P E → Un.Eq nx P E
  hds : ∀ x h, Hd nx x h → Hd nx' x h
  non : ∀ n, nx' n = none ↔ nx n = none
theorem Eqv.refl (str : Str) (nx : Nx) : Eqv str nx nx := ⟨fun _ => Iff.rfl, fun _ h => h, fun _ _ h => h, fun _ _ h => h, fun _ => Iff.rfl⟩
theorem Eqv.trans {str : Str} {a b c : Nx} (h : Eqv str a b) (k : Eqv str b c) : Eqv str a c :=
  ⟨fun V => (k.sol V).trans (h.sol V), fun P q => k.clo P (h.clo P q), fun P E q => h.eqs P E (k.eqs P E q), fun x y q => k.hds x y (h.hds x y q), fun n => (k.non n).trans (h.non n)⟩
theorem Eqv.short (str : Str) {nx : Nx} {n m k : Nat} (h1 : nx n = some m) (h2 : nx m = some k) (hne : n ≠ m) : Eqv str nx (Un.upd nx n (some k)) :=
  ⟨fun V => Sol.short h1 h2 hne, fun P h => h.short h1 h2 hne, fun P E q => q.of_short h1 h2 hne, fun x h j => j.short h1 h2, fun x => by
    by_cases e : x = n
    · subst e; simp [Un.upd, h1]
    · simp [Un.upd, e]⟩
theorem NodeAt.cells {w : World} {ds : List Nat} {str : Str} {nx : Nx} {vr : Nat → Nat} {ly : Nat → Option Addr × Nat} {n : Nat} (h : NodeAt w ds str nx vr ly n) : w.cell? ⟨n, 0, none⟩ = some (nP (nx n)) ∧ w.frozen? ⟨n, 0, none⟩ = false ∧ w.cell? ⟨n, 3, none⟩ = some (.string (byS (str n))) ∧ w.cell? ⟨n, 2, none⟩ = some (.int .i64 (vr n : Int)) ∧ w.cell? ⟨n, 4, none⟩ = some (.slice (ly n).1 (slN (str n)) (ly n).2) := by
  obtain ⟨h1, _⟩ := h
  exact ⟨by simp [World.cell?, h1], by simp [World.frozen?, h1], by simp [World.cell?, h1], by simp [World.cell?, h1], by simp [World.cell?, h1]⟩
theorem NodeAt.lvl {w : World} {ds : List Nat} {str : Str} {nx : Nx} {vr : Nat → Nat} {ly : Nat → Option Addr × Nat} {n : Nat} (h : NodeAt w ds str nx vr ly n) : w.cell? ⟨n, 1, none⟩ = some (.int .i64 0) := by simp [World.cell?, h.1]
/-- A node's next one is turned. -/
theorem GN.set {w : World} {ds : List Nat} {str : Str} {nx : Nx} {vr : Nat → Nat} {ly : Nat → Option Addr × Nat} (h : GN w ds str nx vr ly) {n k : Nat} (hn : n ∈ ds) (hk : k ∈ ds) (hhd : ∀ x, x ∈ ds → ∃ y, Hd (Un.upd nx n (some k)) x y) : GN (w.setCell ⟨n, 0, none⟩ (nA k)) ds str (Un.upd nx n (some k)) vr ly := by
  refine ⟨fun x hx => ?_, fun x hx => ?_, hhd⟩
  · obtain ⟨h1, h2, h3⟩ := h.nd x hx
    have hp : PartsAt (w.setCell ⟨n, 0, none⟩ (nA k)) ds (ly x).1 (str x) := by
      cases hs : str x with
      | none => trivial
      | some p =>
        obtain ⟨c, l⟩ := p
        rw [hs] at h2
        obtain ⟨p1, p2, p3, p4⟩ := h2
        refine ⟨p1, p2, p3, p4.imp id fun q => ?_⟩
        obtain ⟨g, q1, q2, q3, q4⟩ := q
        refine ⟨g, q1, q2, by simpa [World.setCell] using q3, fun i hi => ?_⟩
        rw [World.cell?_setCell_other _ _ _ _ (by intro e; injection e with e; subst e; exact q2 hn)]
        exact q4 i hi
    by_cases e : x = n
    · subst e
      refine ⟨(setCell_heap h1 0 _).trans (by simp [Un.upd, nP]), hp, fun m hm => ?_⟩
      simp [Un.upd] at hm
      subst hm
      exact hk
    · refine ⟨?_, hp, fun m hm => h3 m (by simpa [Un.upd, e] using hm)⟩
      rw [Below.heap_setCell _ _ _ _ e, h1]
      simp [Un.upd, e]
  · have : x ≠ n := fun e => hx (e ▸ hn)
    simpa [Un.upd, this] using h.out x hx
def HeadPost (ds : List Nat) (str : Str) (nx : Nx) (vr : Nat → Nat) (ly : Nat → Option Addr × Nat) (h : Nat) (w : World) (e : Ending) (w' : World) : Prop :=
  e = .returned (nA h) ∧ ∃ nx', GN w' ds str nx' vr ly ∧ Fr (fun b => b ∈ ds) w w' ∧ Eqv str nx nx' ∧ w'.heap.size = w.heap.size
def HeadRel' (ds : List Nat) (str : Str) (nx : Nx) (vr : Nat → Nat) (ly : Nat → Option Addr × Nat) (h : Nat) (w : World) (gk : Nat) (v : Value) (wr : World) : Prop :=
  ∃ n nx', v = nA n ∧ n ∈ ds ∧ HdL nx' n h gk ∧ GN wr ds str nx' vr ly ∧ Fr (fun b => b ∈ ds) w wr ∧ Eqv str nx nx' ∧ wr.heap.size = w.heap.size
section
variable {w : World} {ds : List Nat} {str : Str} {nx : Nx} {vr : Nat → Nat} {ly : Nat → Option Addr × Nat}
set_option maxRecDepth 100000 in
set_option maxHeartbeats 2000000 in
theorem head_P (hg : GN w ds str nx vr ly) {n h : Nat} (hn : n ∈ ds) (hh : Hd nx n h) : Calls Tryz.prog 139 #[nA n] w (HeadPost ds str nx vr ly h w) := by
  obtain ⟨j0, hj0⟩ := Hd.len hh
  have HG := hide hg
  have HJ := hide hj0
  clear hg hj0 hh
  go_enter Tryz.func139, Tryz.ntmps139
  go_wp2_with fail
  go_loopg [0] j0 (fun gk v wr => HeadRel' ds str nx vr ly h w gk v wr)
  case atStart => exact ⟨n, nx, rfl, hn, unhide HJ, unhide HG, Fr.refl _ _, Eqv.refl _ _, rfl⟩
  case round =>
    clear HG HJ
    obtain ⟨n1, nx1, rfl, hn1, hl1, G1, F1, E1, z1⟩ := hrel
    obtain ⟨c0, f0, _⟩ := (G1.nd n1 hn1).cells
    cases hl1 with
    | here e0 =>
      rw [e0] at c0
      have c0' : wr.cell? ⟨h, 0, none⟩ = some (.pointer none) := c0
      clear c0
      go_wp2_with fail
      go_ret
      exact ⟨rfl, nx1, G1, F1, E1, z1⟩
    | @step _ m _ k e0 hlm =>
      have hm : m ∈ ds := by
        obtain ⟨_, _, h3⟩ := G1.nd n1 hn1
        exact h3 m e0
      have hne : n1 ≠ m := fun q => by subst q; have := (HdL.step e0 hlm).one hlm; omega
      rw [e0] at c0
      have c0' : wr.cell? ⟨n1, 0, none⟩ = some (.pointer (some ⟨m, 0, none⟩)) := c0
      obtain ⟨d0, _⟩ := (G1.nd m hm).cells
      clear c0
      cases hlm with
      | here e1 =>
        rw [e1] at d0
        have d0' : wr.cell? ⟨h, 0, none⟩ = some (.pointer none) := d0
        clear d0
        go_wp2_with fail
        go_roundg 0
        case measure => omega
        case rel => exact ⟨h, nx1, rfl, hm, .here e1, G1, F1, E1, z1⟩
      | @step _ m2 _ k2 e1 hl2 =>
        rw [e1] at d0
        have d0' : wr.cell? ⟨m, 0, none⟩ = some (.pointer (some ⟨m2, 0, none⟩)) := d0
        have hm2 : m2 ∈ ds := by
          obtain ⟨_, _, h3⟩ := G1.nd m hm
          exact h3 m2 e1
        clear d0
        have hnm : ¬ m = n1 := fun q => hne q.symm
        go_wp2_with fail
        go_roundg k2
        case measure => omega
        case rel =>
          refine ⟨m2, Un.upd nx1 n1 (some m2), rfl, hm2, hl2.upd (HdL.step e0 (HdL.step e1 hl2)) (by omega) _, G1.set hn1 hm2 (fun x hx => ?_), F1.set (Or.inl hn1) 0 _, E1.trans (Eqv.short str e0 e1 hne), by simp [World.setCell]; exact z1⟩
          obtain ⟨y, hy⟩ := G1.hd x hx
          exact ⟨y, hy.short e0 e1⟩
def LowPost (ds : List Nat) (str : Str) (nx : Nx) (vr : Nat → Nat) (ly : Nat → Option Addr × Nat) (w : World) (e : Ending) (w' : World) : Prop :=
  e = .returned (.tuple #[]) ∧ ∃ nx', GN w' ds str nx' vr ly ∧ Fr (fun b => b ∈ ds) w w' ∧ Eqv str nx nx' ∧ w'.heap.size = w.heap.size
set_option maxRecDepth 100000 in
set_option maxHeartbeats 2000000 in
/-- Where all is at one level, none is lowered. -/
theorem lower_P (hg : GN w ds str nx vr ly) {n h : Nat} (hn : n ∈ ds) (hh : Hd nx n h) (hm : h ∈ ds) : Calls Tryz.prog 140 #[nA n, .int .i64 0] w (LowPost ds str nx vr ly w) := by
  have HC := hide (head_P hg hn hh)
  clear hg
  go_enter Tryz.func140, Tryz.ntmps140
  go_wp2_with fail
  refine (unhide HC).mono ?_
  rintro e w1 ⟨rfl, nx1, G1, F1, E1, z1⟩
  have c1 := (G1.nd h hm).lvl
  have HG := hide G1
  clear HC G1
  go_wp2_with fail
  go_end0
  exact ⟨rfl, nx1, unhide HG, F1, E1, z1⟩
end
end Go.Proofs.YtfflpeklkfjdnaaGreatDoor
namespace Go.Proofs.YtfflpeklkfjdnaaGreatDoor
open Go Go.RowKit Go.ChangeMaps Un
def hc (nx : Nx) (ds : List Nat) : Nat := (ds.filter fun n => (nx n).isNone).length
theorem hc_eqv {str : Str} {nx nx' : Nx} (h : Eqv str nx nx') (ds : List Nat) : hc nx' ds = hc nx ds := by
  unfold hc
  congr 1
  apply List.filter_congr
  intro x _
  have := h.non x
  cases e : nx' x <;> cases e' : nx x <;> simp [e, e'] at this ⊢
theorem hc_upd {nx : Nx} {a b : Nat} (ha : nx a = none) : ∀ {ds : List Nat}, a ∈ ds → hc (Un.upd nx a (some b)) ds < hc nx ds := by
  have hle : ∀ ds : List Nat, hc (Un.upd nx a (some b)) ds ≤ hc nx ds := by
    intro ds
    induction ds with
    | nil => exact Nat.le_refl _
    | cons x l ih =>
      unfold hc at ih ⊢
      by_cases e : x = a
      · subst e
        rw [List.filter_cons_of_neg (by simp [Un.upd])]
        exact Nat.le_trans ih (by rw [List.filter_cons_of_pos (by simp [ha])]; simp)
      · have e1 : Un.upd nx a (some b) x = nx x := by simp [Un.upd, e]
        by_cases e2 : (nx x).isNone = true
        · rw [List.filter_cons_of_pos (by rw [e1]; exact e2), List.filter_cons_of_pos (p := fun n => (nx n).isNone) e2]
          simpa using ih
        · rw [List.filter_cons_of_neg (by rw [e1]; exact e2), List.filter_cons_of_neg (p := fun n => (nx n).isNone) e2]
          exact ih
  intro ds h
  induction ds with
  | nil => simp at h
  | cons x l ih =>
    by_cases e : x = a
    · subst e
      have h1 : hc (Un.upd nx x (some b)) (x :: l) = hc (Un.upd nx x (some b)) l := by
        unfold hc
        rw [List.filter_cons_of_neg (by simp [Un.upd])]
      have h2 : hc nx (x :: l) = hc nx l + 1 := by
        unfold hc
        rw [List.filter_cons_of_pos (by simp [ha])]
        simp
      have := hle l
      omega
    · have := ih ((List.mem_cons.1 h).resolve_left (fun q => e q.symm))
      have e1 : Un.upd nx a (some b) x = nx x := by simp [Un.upd, e]
      unfold hc at this ⊢
      by_cases e2 : (nx x).isNone = true
      · rw [List.filter_cons_of_pos (by rw [e1]; exact e2), List.filter_cons_of_pos (p := fun n => (nx n).isNone) e2]
        simpa using this
      · rw [List.filter_cons_of_neg (by rw [e1]; exact e2), List.filter_cons_of_neg (p := fun n => (nx n).isNone) e2]
        exact this
/-- What joining two nodes comes to. -/
structure JR (str : Str) (nx nx' : Nx) (x y : Nat) (ok : Bool) : Prop where
  eqs : ∀ P E, Un.Eq nx' P E → Un.Eq nx P E
  yes : ok = true → (∀ V, Sol str nx' V ↔ Sol str nx V ∧ V x = V y) ∧ (∀ P, Clo str nx P → Clo str nx' P) ∧ (∀ P E, Un.Eq nx' P E → E x y)
  no : ok = false → ∀ V, Sol str nx V → V x ≠ V y
theorem JR.heads {str : Str} {nx nx2 nx' : Nx} {x y a b : Nat} {ok : Bool} (h : JR str nx2 nx' a b ok) (e : Eqv str nx nx2) (hx : Hd nx x a) (hy : Hd nx y b) : JR str nx nx' x y ok := by
  refine ⟨fun P E q => e.eqs P E (h.eqs P E q), fun hk => ?_, fun hk V hV => ?_⟩
  · obtain ⟨h1, h2, h3⟩ := h.yes hk
    refine ⟨fun V => ?_, fun P q => h2 P (e.clo P q), fun P E q => ?_⟩
    · rw [h1 V, e.sol V]
      constructor
      · rintro ⟨s, t⟩; exact ⟨s, by rw [hx.sol s, hy.sol s]; exact t⟩
      · rintro ⟨s, t⟩; exact ⟨s, by rw [← hx.sol s, ← hy.sol s]; exact t⟩
    · have q1 := e.eqs P E (h.eqs P E q)
      exact q1.trans _ _ _ (hx.eq q1) (q1.trans _ _ _ (h3 P E q) (q1.symm _ _ (hy.eq q1)))
  · have := h.no hk V ((e.sol V).2 hV)
    rw [hx.sol hV, hy.sol hV]
    exact this
theorem JR.same (str : Str) (nx : Nx) (a : Nat) : JR str nx nx a a true := ⟨fun _ _ q => q, fun _ => ⟨fun V => by simp, fun _ q => q, fun P E q => q.refl a⟩, fun h => by cases h⟩
theorem JR.varL {str : Str} {nx : Nx} {a b : Nat} (ha : nx a = none) (hs : str a = none) : JR str nx (Un.upd nx a (some b)) a b true :=
  ⟨fun P E q => (q.of_join ha).1, fun _ => ⟨fun V => Sol.join ha, fun P q => q.var ha hs, fun P E q => (q.of_join ha).2⟩, fun h => by cases h⟩
theorem JR.varR {str : Str} {nx : Nx} {a b : Nat} (hb : nx b = none) (hs : str b = none) : JR str nx (Un.upd nx b (some a)) a b true :=
  ⟨fun P E q => (q.of_join hb).1, fun _ => ⟨fun V => (Sol.join hb).trans (by constructor <;> rintro ⟨s, t⟩ <;> exact ⟨s, t.symm⟩), fun P q => q.var hb hs, fun P E q => q.symm _ _ (q.of_join hb).2⟩, fun h => by cases h⟩
theorem JR.clash {str : Str} {nx : Nx} {a b : Nat} {c c' : ByteArray} {l l' : List Nat} (ha : str a = some (c, l)) (hb : str b = some (c', l')) (h : c ≠ c' ∨ l.length ≠ l'.length) : JR str nx nx a b false := by
  refine ⟨fun _ _ q => q, fun h => (by cases h), fun _ V s e => ?_⟩
  rw [s.made a c l ha, s.made b c' l' hb] at e
  injection e with e1 e2
  rcases h with h | h
  · exact h e1
  · exact h (by have := congrArg List.length e2; simpa using this)
/-- How far the parts of two nodes are joined. -/
structure JL (str : Str) (nxu nxj : Nx) (l l' : List Nat) (j : Nat) : Prop where
  eqs : ∀ P E, Un.Eq nxj P E → Un.Eq nxu P E
  sol : ∀ V, Sol str nxj V ↔ Sol str nxu V ∧ ∀ i (h : i < l.length) (h' : i < l'.length), i < j → V l[i] = V l'[i]
  clo : ∀ P, Clo str nxu P → Clo str nxj P
  prs : ∀ i (h : i < l.length) (h' : i < l'.length), i < j → ∀ P E, Un.Eq nxj P E → E l[i] l'[i]
theorem JL.start (str : Str) (nx : Nx) (l l' : List Nat) : JL str nx nx l l' 0 := by
  refine ⟨fun _ _ q => q, fun V => ⟨fun s => ⟨s, ?_⟩, fun s => s.1⟩, fun _ q => q, ?_⟩
  · exact fun i _ _ h => absurd h (Nat.not_lt_zero _)
  · exact fun i _ _ h => absurd h (Nat.not_lt_zero _)
theorem JL.step {str : Str} {nxu nxj nx' : Nx} {l l' : List Nat} {j : Nat} (h : JL str nxu nxj l l' j) (hj : j < l.length) (hj' : j < l'.length) (k : JR str nxj nx' l[j] l'[j] true) : JL str nxu nx' l l' (j + 1) := by
  obtain ⟨k1, k2, k3⟩ := k.yes rfl
  refine ⟨fun P E q => h.eqs P E (k.eqs P E q), fun V => ?_, fun P q => k2 P (h.clo P q), fun i hi hi' hij P E q => ?_⟩
  · rw [k1 V, h.sol V]
    constructor
    · rintro ⟨⟨s, t⟩, u⟩
      refine ⟨s, fun i hi hi' hij => ?_⟩
      by_cases e : i = j
      · subst e; exact u
      · exact t i hi hi' (by omega)
    · rintro ⟨s, t⟩
      exact ⟨⟨s, fun i hi hi' hij => t i hi hi' (by omega)⟩, t j hj hj' (by omega)⟩
  · by_cases e : i = j
    · subst e; exact k3 P E q
    · exact h.prs i hi hi' (by omega) P E (k.eqs P E q)
theorem map_eq_parts {V : Nat → Ty} {l l' : List Nat} (h : l.map V = l'.map V) (i : Nat) (hi : i < l.length) (hi' : i < l'.length) : V l[i] = V l'[i] := by
  have := congrArg (fun x => x[i]?) h
  simpa [hi, hi'] using this
theorem JL.done {str : Str} {nx nxj : Nx} {a b : Nat} {c : ByteArray} {l l' : List Nat} (ha : nx a = none) (hs : str a = some (c, l)) (hs' : str b = some (c, l')) (hl : l.length = l'.length) (h : JL str (Un.upd nx a (some b)) nxj l l' l.length) : JR str nx nxj a b true := by
  refine ⟨fun P E q => ((h.eqs P E q).of_join ha).1, fun _ => ⟨fun V => ?_, fun P q => ?_, fun P E q => ((h.eqs P E q).of_join ha).2⟩, fun h => by cases h⟩
  · rw [h.sol V, Sol.join ha]
    constructor
    · rintro ⟨⟨s, t⟩, _⟩; exact ⟨s, t⟩
    · rintro ⟨s, t⟩
      refine ⟨⟨s, t⟩, fun i hi hi' _ => ?_⟩
      rw [s.made a c l hs, s.made b c l' hs'] at t
      injection t with _ t
      exact map_eq_parts t i hi hi'
  · have h1 := h.clo _ (q.con ha hs hs' hl)
    refine h1.paid fun E hE m n hm => ?_
    obtain ⟨i, hi, e⟩ := List.getElem_of_mem hm
    have hi1 : i < l.length := by simp at hi; omega
    have hi2 : i < l'.length := by simp at hi; omega
    rw [List.getElem_zip] at e
    injection e with e1 e2
    subst e1
    subst e2
    exact h.prs i hi1 hi2 hi1 P E hE
theorem JL.fail {str : Str} {nx nxj nx' : Nx} {a b : Nat} {c : ByteArray} {l l' : List Nat} {j : Nat} (ha : nx a = none) (hs : str a = some (c, l)) (hs' : str b = some (c, l')) (h : JL str (Un.upd nx a (some b)) nxj l l' j) (hj : j < l.length) (hj' : j < l'.length) (k : JR str nxj nx' l[j] l'[j] false) : JR str nx nx' a b false := by
  refine ⟨fun P E q => ((h.eqs P E (k.eqs P E q)).of_join ha).1, fun h => (by cases h), fun _ V s e => ?_⟩
  have t := e
  rw [s.made a c l hs, s.made b c l' hs'] at t
  injection t with _ t
  have s1 : Sol str nxj V := (h.sol V).2 ⟨(Sol.join ha).2 ⟨s, e⟩, fun i hi hi' _ => map_eq_parts t i hi hi'⟩
  exact k.no rfl V s1 (map_eq_parts t j hj hj')
theorem pn_ne {c : ByteArray} (h : CN c) : (pn c).toList ≠ [] := by
  rcases h with rfl | rfl | h
  · rw [pn_fn, show (ByteArray.mk #[45, 62]).toList = [45, 62] from toList_mk [45, 62]]; simp
  · rw [pn_pr, show (ByteArray.mk #[44]).toList = [44] from toList_mk [44]]; simp
  · rw [pn_up h]; obtain ⟨x, r, e, _⟩ := h; rw [e]; simp
theorem pn_inj {c c' : ByteArray} (h : CN c) (h' : CN c') (e : (pn c).toList = (pn c').toList) : c = c' := by
  have f1 : (ByteArray.mk #[45, 62]).toList = [45, 62] := toList_mk [45, 62]
  have f2 : (ByteArray.mk #[44]).toList = [44] := toList_mk [44]
  rcases h with rfl | rfl | h <;> rcases h' with rfl | rfl | h'
  · rfl
  · rw [pn_fn, pn_pr, f1, f2] at e; simp at e
  · rw [pn_fn, pn_up h', f1] at e; exact absurd e.symm (upN_ne h' 45 [62] (by decide))
  · rw [pn_fn, pn_pr, f1, f2] at e; simp at e
  · rfl
  · rw [pn_pr, pn_up h', f2] at e; exact absurd e.symm (upN_ne h' 44 [] (by decide))
  · rw [pn_fn, pn_up h, f1] at e; exact absurd e (upN_ne h 45 [62] (by decide))
  · rw [pn_pr, pn_up h, f2] at e; exact absurd e (upN_ne h 44 [] (by decide))
  · rw [pn_up h, pn_up h'] at e; exact toList_inj e
theorem nodeInfo' : (Tryz.prog.info? 294).map (fun i => i.size) = some 5 := by kernel_rfl
theorem run_eql_ptr {P : Program} {w : World} {tp te : TypeId} {j : TypeInfo} (hu : P.underlying tp = some (.pointer te)) (hj : P.info? te = some j) (hjs : j.size ≠ 0) {a b : Nat} {ca cb : Array Value} {ta tb : TypeId} (ha : w.heap[a]? = some (.cells ca ta (0, 0))) (hb : w.heap[b]? = some (.cells cb tb (0, 0))) : (binOp .eql tp (nA a) (nA b)).run P w = .ok (.bool (decide (a = b))) w := by
  have hq : (Op.equal tp (nA a) (nA b)).run P w = .ok (decide (a = b)) w := by
    unfold Op.equal Op.maxDepth Op.equalIn
    simp only [Sem.run_bind, run_underlying hu, Result.andThen, Go.sizeOf, Go.typeInfo, hj]
    by_cases e : a = b
    · subst e; simp [hjs, run_sameAddr_same, hj]
    · simp [e, hjs, hj, run_sameAddr_other w (a := ⟨a, 0, none⟩) (b := ⟨b, 0, none⟩) (by intro q; injection q with q; exact e q) ha hb]
  simp only [binOp]
  simp [hq]
theorem run_eqlN {w : World} {a b : Nat} {ca cb : Array Value} {ta tb : TypeId} (ha : w.heap[a]? = some (.cells ca ta (0, 0))) (hb : w.heap[b]? = some (.cells cb tb (0, 0))) : (binOp .eql 172 (nA a) (nA b)).run Tryz.prog w = .ok (.bool (decide (a = b))) w := by
  obtain ⟨j, hj, hjs⟩ := Option.map_eq_some_iff.1 nodeInfo'
  exact run_eql_ptr (by kernel_rfl) hj (by omega) ha hb
def JPost (ds : List Nat) (str : Str) (nx : Nx) (vr : Nat → Nat) (ly : Nat → Option Addr × Nat) (x y : Nat) (w : World) (e : Ending) (w' : World) : Prop :=
  ∃ ok nx', e = .returned (.bool ok) ∧ GN w' ds str nx' vr ly ∧ Fr (fun b => b ∈ ds) w w' ∧ w'.heap.size = w.heap.size ∧ hc nx' ds ≤ hc nx ds ∧ JR str nx nx' x y ok
def JoinC (ds : List Nat) (str : Str) (vr : Nat → Nat) (ly : Nat → Option Addr × Nat) (k : Nat) : Prop := ∀ (w : World) (nx : Nx), GN w ds str nx vr ly → hc nx ds ≤ k → ∀ x y, x ∈ ds → y ∈ ds → Calls Tryz.prog 74 #[nA x, nA y] w (JPost ds str nx vr ly x y w)
end Go.Proofs.YtfflpeklkfjdnaaGreatDoor
namespace Go.Proofs.YtfflpeklkfjdnaaGreatDoor
open Go Go.RowKit Go.ChangeMaps Un
theorem GN.hd_mem {w : World} {ds : List Nat} {str : Str} {nx : Nx} {vr : Nat → Nat} {ly : Nat → Option Addr × Nat} (g : GN w ds str nx vr ly) {n h : Nat} (hn : n ∈ ds) (k : Hd nx n h) : h ∈ ds := by
  induction k with
  | here => exact hn
  | step e _ ih => exact ih ((g.nd _ hn).2.2 _ e)
theorem hc_pos {nx : Nx} {ds : List Nat} {h : Nat} (hm : h ∈ ds) (hn : nx h = none) : 0 < hc nx ds := by
  unfold hc
  apply List.length_pos_of_mem (a := h)
  rw [List.mem_filter]
  exact ⟨hm, by simp [hn]⟩
theorem GN.drewN {w : World} {ds : List Nat} {str : Str} {nx : Nx} {vr : Nat → Nat} {ly : Nat → Option Addr × Nat} (g : GN w ds str nx vr ly) (n : Nat) : GN (w.drewN n) ds str nx vr ly := ⟨g.nd, g.out, g.hd⟩
theorem GN.drew {w : World} {ds : List Nat} {str : Str} {nx : Nx} {vr : Nat → Nat} {ly : Nat → Option Addr × Nat} (g : GN w ds str nx vr ly) : GN w.drew ds str nx vr ly := ⟨g.nd, g.out, g.hd⟩
theorem GN.row {w : World} {ds : List Nat} {str : Str} {nx : Nx} {vr : Nat → Nat} {ly : Nat → Option Addr × Nat} (g : GN w ds str nx vr ly) {a : Nat} (ha : a ∈ ds) {c : ByteArray} {l : List Nat} (hs : str a = some (c, l)) {j : Nat} (hj : j < l.length) : ∃ ga, (ly a).1 = some ⟨ga, 0, none⟩ ∧ w.cell? ⟨ga, j, none⟩ = some (nA l[j]) ∧ ¬ ga ∈ ds := by
  have h := (g.nd a ha).2.1
  rw [hs] at h
  obtain ⟨_, _, _, h0 | ⟨ga, h1, h2, _, h4⟩⟩ := h
  · subst h0; simp at hj
  · exact ⟨ga, h1, h4 j hj, h2⟩
def JoinRel (ds : List Nat) (str : Str) (nx : Nx) (vr : Nat → Nat) (ly : Nat → Option Addr × Nat) (l l' : List Nat) (k : Nat) (w : World) (gk : Nat) (v : Value) (wr : World) : Prop :=
  ∃ j nxj, Hid (gk = l.length - j) ∧ j ≤ l.length ∧ v = .int .i64 (j : Int) ∧ GN wr ds str nxj vr ly ∧ Fr (fun b => b ∈ ds) w wr ∧ wr.heap.size = w.heap.size ∧ hc nxj ds ≤ k ∧ JL str nx nxj l l' j
section
variable {ds : List Nat} {str : Str} {vr : Nat → Nat} {ly : Nat → Option Addr × Nat} {k : Nat}
set_option maxRecDepth 100000 in
set_option maxHeartbeats 4000000 in
theorem join_step (IH : JoinC ds str vr ly k) : JoinC ds str vr ly (k + 1) := by
  intro w nx G hk x y hx hy
  obtain ⟨a, hda⟩ := G.hd x hx
  obtain ⟨b, hdb⟩ := G.hd y hy
  have ha : a ∈ ds := G.hd_mem hx hda
  have hb : b ∈ ds := G.hd_mem hy hdb
  have hnot : ∀ (x : Bool) (w : World), (Op.unary .not (.bool x)).run Tryz.prog w = .ok (.bool (!x)) w := fun _ _ => rfl
  have HC := hide (head_P G hx hda)
  go_enter Tryz.func74, Tryz.ntmps74
  go_wp2_with fail
  refine (unhide HC).mono ?_
  rintro e w1 ⟨rfl, nx1, G1, F1, E1, z1⟩
  have HC2 := hide (head_P G1 hy (E1.hds _ _ hdb))
  clear HC
  go_wp2_with fail
  refine (unhide HC2).mono ?_
  rintro e w2 ⟨rfl, nx2, G2, F2, E2, z2⟩
  have E := E1.trans E2
  have FF := F1.trans F2
  have hca := hc_eqv E ds
  have hna : nx2 a = none := (E.hds _ _ hda).head
  have hnb : nx2 b = none := (E.hds _ _ hdb).head
  have heq := run_eqlN (G2.nd a ha).1 (G2.nd b hb).1
  obtain ⟨ca0, fa0, ca2, _, ca3⟩ := (G2.nd a ha).cells
  obtain ⟨cb0, fb0, cb2, _, cb3⟩ := (G2.nd b hb).cells
  have HG2 := hide G2
  clear HC2
  by_cases hab : a = b
  · subst hab
    simp at heq
    go_wp2_with fail
    go_ret
    exact ⟨true, nx2, rfl, G2, FF, by omega, by omega, (JR.same str nx2 a).heads E hda hdb⟩
  · have hba : ¬ b = a := fun q => hab q.symm
    rw [show decide (a = b) = false by simp [hab]] at heq
    have lb2 := (G2.nd b hb).lvl
    have HL1 := hide (lower_P G2 ha (.here hna) ha)
    go_wp2_with fail
    refine (unhide HL1).mono ?_
    rintro e w3 ⟨rfl, nx3, G3, F3, E3, z3⟩
    have la3 := (G3.nd a ha).lvl
    have HL2 := hide (lower_P G3 hb ((E.trans E3).hds _ _ hdb |> fun q => by have := q.head; exact .here this) hb)
    clear HL1 ca0 fa0 ca2 ca3 cb0 fb0 cb2 cb3 heq lb2 HG2
    go_wp2_with fail
    refine (unhide HL2).mono ?_
    rintro e w4 ⟨rfl, nx4, G4, F4, E4, z4⟩
    have E0 := E
    clear E
    have E := (E0.trans E3).trans E4
    have FF4 := (FF.trans F3).trans F4
    clear hca hna hnb
    have hca := hc_eqv E ds
    have hna : nx4 a = none := (E.hds _ _ hda).head
    have hnb : nx4 b = none := (E.hds _ _ hdb).head
    obtain ⟨ca0, fa0, ca2, _, ca3⟩ := (G4.nd a ha).cells
    obtain ⟨cb0, fb0, cb2, _, cb3⟩ := (G4.nd b hb).cells
    clear HL2 la3 F3 F4 G3 E3 E4
    cases hsa : str a with
    | none =>
      rw [hsa] at ca2
      have ca2' : w4.cell? ⟨a, 3, none⟩ = some (.string ⟨#[]⟩) := ca2
      clear ca2
      go_wp2_with fail
      go_ret
      refine ⟨true, Un.upd nx4 a (some b), rfl, G4.set ha hb (fun z hz => ?_), FF4.set (Or.inl ha) 0 _, by simp [World.setCell]; omega, by have := hc_upd (b := b) hna ha; omega, (JR.varL hna hsa).heads E hda hdb⟩
      obtain ⟨q, hq⟩ := G4.hd z hz
      exact ⟨_, hq.join hna hnb hab⟩
    | some pa =>
      obtain ⟨c, l⟩ := pa
      have hPa := (G4.nd a ha).2.1
      rw [hsa] at ca2 ca3 hPa
      have ca2' : w4.cell? ⟨a, 3, none⟩ = some (.string (pn c)) := ca2
      have ca3' : w4.cell? ⟨a, 4, none⟩ = some (.slice (ly a).1 l.length (ly a).2) := ca3
      obtain ⟨hcn, hll, hlm, hrow⟩ := hPa
      have hea : ((pn c).toList == []) = false := by rw [← Bool.not_eq_true, beq_iff_eq]; exact pn_ne hcn
      clear ca2 ca3
      cases hsb : str b with
      | none =>
        rw [hsb] at cb2
        have cb2' : w4.cell? ⟨b, 3, none⟩ = some (.string ⟨#[]⟩) := cb2
        clear cb2
        go_wp2_with fail
        go_ret
        refine ⟨true, Un.upd nx4 b (some a), rfl, G4.set hb ha (fun z hz => ?_), FF4.set (Or.inl hb) 0 _, by simp [World.setCell]; omega, by have := hc_upd (b := a) hnb hb; omega, (JR.varR hnb hsb).heads E hda hdb⟩
        obtain ⟨q, hq⟩ := G4.hd z hz
        exact ⟨_, hq.join hnb hna hba⟩
      | some pb =>
        obtain ⟨c', l'⟩ := pb
        have hPb := (G4.nd b hb).2.1
        rw [hsb] at cb2 cb3 hPb
        have cb2' : w4.cell? ⟨b, 3, none⟩ = some (.string (pn c')) := cb2
        have cb3' : w4.cell? ⟨b, 4, none⟩ = some (.slice (ly b).1 l'.length (ly b).2) := cb3
        obtain ⟨hcn', hll', hlm', hrow'⟩ := hPb
        have heb : ((pn c').toList == []) = false := by rw [← Bool.not_eq_true, beq_iff_eq]; exact pn_ne hcn'
        clear cb2 cb3
        by_cases hcc : c = c'
        · subst hcc
          have hbb : ((pn c).toList == (pn c).toList) = true := by simp
          by_cases hlen : l.length = l'.length
          · have hle : ((l.length : Int) == (l'.length : Int)) = true := by simp [hlen]
            have hcu := hc_upd (b := b) hna ha
            have hgs : ∀ z, z ∈ ds → ∃ y, Hd (Un.upd nx4 a (some b)) z y := fun z hz => by
              obtain ⟨q, hq⟩ := G4.hd z hz
              exact ⟨_, hq.join hna hnb hab⟩
            clear cb0 fb0 G1 F1 F2 G
            go_wp2_with fail
            go_quiet (fail)
            go_wp2_with fail
            have GS := hide ((G4.drewN nq).set ha hb hgs)
            have FS := hide ((FF4.drewN nq).set (b := a) (Or.inl ha) 0 (nA b))
            have zs : ((w4.drewN nq).setCell ⟨a, 0, none⟩ (nA b)).heap.size = w.heap.size := by simp [World.setCell]; show w4.heap.size = _; omega
            go_loopg [77] l.length (fun gk v wr => JoinRel ds str (Un.upd nx4 a (some b)) vr ly l l' (hc (Un.upd nx4 a (some b)) ds) w gk v wr)
            case atStart => exact ⟨0, Un.upd nx4 a (some b), hide (by simp), Nat.zero_le _, rfl, unhide GS, unhide FS, zs, Nat.le_refl _, JL.start _ _ _ _⟩
            case round =>
              clear GS FS zs
              obtain ⟨j, nxj, hgk, hj, rfl, Gj, Fj, zj, hcj, JLj⟩ := hrel
              by_cases hjl : j < l.length
              · have hd : (j : Int) < (l.length : Int) := by omega
                have hjl' : j < l'.length := by omega
                have hd' : (j : Int) < (l'.length : Int) := by omega
                obtain ⟨ga, ea, ra, _⟩ := Gj.row ha hsa hjl
                obtain ⟨gb, eb, rb, _⟩ := Gj.row hb hsb hjl'
                obtain ⟨_, _, _, _, qa⟩ := (Gj.nd a ha).cells
                obtain ⟨_, _, _, _, qb⟩ := (Gj.nd b hb).cells
                rw [hsa, ea] at qa
                rw [hsb, eb] at qb
                have qa' : wr.cell? ⟨a, 4, none⟩ = some (.slice (some ⟨ga, 0, none⟩) l.length (ly a).2) := qa
                have qb' : wr.cell? ⟨b, 4, none⟩ = some (.slice (some ⟨gb, 0, none⟩) l'.length (ly b).2) := qb
                have HJ : Hid (∀ W, W = wr.drew → Calls Tryz.prog 74 #[nA l[j], nA l'[j]] W fun e w' => ∃ ok nx', e = .returned (.bool ok) ∧ GN w' ds str nx' vr ly ∧ Fr (fun b => b ∈ ds) wr w' ∧ w'.heap.size = wr.heap.size ∧ hc nx' ds ≤ hc (Un.upd nx4 a (some b)) ds ∧ JR str nxj nx' l[j] l'[j] ok ∧ (w'.cell? ⟨a, 4, none⟩ = some (.slice (some ⟨ga, 0, none⟩) l.length (ly a).2) ∧ w'.cell? ⟨b, 4, none⟩ = some (.slice (some ⟨gb, 0, none⟩) l'.length (ly b).2) ∧ w'.cell? ⟨ga, j, none⟩ = some (nA l[j]) ∧ w'.cell? ⟨gb, j, none⟩ = some (nA l'[j]))) := hide (fun W hW => by
                  subst hW
                  refine (IH wr.drew nxj Gj.drew (by omega) l[j] l'[j] (hlm _ (List.getElem_mem _)) (hlm' _ (List.getElem_mem _))).mono ?_
                  rintro e w5 ⟨ok, nx5, rfl, G5, F5, z5, h5, J5⟩
                  obtain ⟨ga5, ea5, ra5, _⟩ := G5.row ha hsa hjl
                  obtain ⟨gb5, eb5, rb5, _⟩ := G5.row hb hsb hjl'
                  obtain ⟨_, _, _, _, pa⟩ := (G5.nd a ha).cells
                  obtain ⟨_, _, _, _, pb⟩ := (G5.nd b hb).cells
                  rw [hsa, ea] at pa
                  rw [hsb, eb] at pb
                  rw [ea] at ea5
                  rw [eb] at eb5
                  cases ea5
                  cases eb5
                  exact ⟨ok, nx5, rfl, G5, (Fr.refl _ wr).drew.trans F5, z5, Nat.le_trans h5 hcj, J5, pa, pb, ra5, rb5⟩)
                clear ea eb qa qb hrow hrow' ca2' cb2' ca3' cb3' heb hea hbb hle IH
                go_wp2_with fail
                go_region_held3 (fun w' => w'.cell? ⟨a, 4, none⟩ = some (.slice (some ⟨ga, 0, none⟩) l.length (ly a).2) ∧ w'.cell? ⟨b, 4, none⟩ = some (.slice (some ⟨gb, 0, none⟩) l'.length (ly b).2) ∧ w'.cell? ⟨ga, j, none⟩ = some (nA l[j]) ∧ w'.cell? ⟨gb, j, none⟩ = some (nA l'[j])) (first | go_keep | (simp [*])) (first | (go_at_call 74; refine (unhide HJ _ rfl).mono ?_; rintro e w5 ⟨ok, nx5, rfl, hG5, hF5, hz5, h5, hJ5, k1, k2, k3, k4⟩; have HG5 := hide hG5; have HF5 := hide hF5; have HZ5 := hide hz5; have HJ5 := hide hJ5; clear hG5 hF5 hz5 hJ5))
                all_goals (
                  cases ok with
                  | true =>
                    go_wp2_with fail
                    go_roundg (l.length - (j + 1))
                    case measure => rw [unhide hgk]; omega
                    case rel => exact ⟨j + 1, nx5, hide rfl, by omega, by go_num, unhide HG5, Fj.trans (unhide HF5), (unhide HZ5).trans zj, h5, JLj.step hjl hjl' (unhide HJ5)⟩
                  | false =>
                    go_wp2_with fail
                    go_ret
                    exact ⟨false, nx5, rfl, unhide HG5, Fj.trans (unhide HF5), (unhide HZ5).trans zj, by omega, (JL.fail hna hsa hsb JLj hjl hjl' (unhide HJ5)).heads E hda hdb⟩)
              · have hd : decide ((j : Int) < (l.length : Int)) = false := by simp; omega
                have ej : j = l.length := by omega
                subst ej
                go_wp2_with fail
                go_ret
                exact ⟨true, nxj, rfl, Gj, Fj, zj, by omega, (JL.done hna hsa hsb hlen JLj).heads E hda hdb⟩
          · have hle : ((l.length : Int) == (l'.length : Int)) = false := by simp; omega
            go_wp2_with fail
            go_quiet (fail)
            go_wp2_with fail
            go_ret
            exact ⟨false, nx4, rfl, G4.drewN _, FF4.drewN _, by show w4.heap.size = _; omega, by omega, (JR.clash hsa hsb (Or.inr hlen)).heads E hda hdb⟩
        · have hbb : ((pn c).toList == (pn c').toList) = false := by rw [← Bool.not_eq_true, beq_iff_eq]; exact fun q => hcc (pn_inj hcn hcn' q)
          go_wp2_with fail
          go_quiet (fail)
          go_wp2_with fail
          go_ret
          exact ⟨false, nx4, rfl, G4.drewN _, FF4.drewN _, by show w4.heap.size = _; omega, by omega, (JR.clash hsa hsb (Or.inl hcc)).heads E hda hdb⟩
theorem Join_P : ∀ k, JoinC ds str vr ly k
  | 0 => fun w nx G hk x y hx hy => by
    obtain ⟨a, hda⟩ := G.hd x hx
    have := hc_pos (G.hd_mem hx hda) hda.head
    omega
  | k + 1 => join_step (Join_P k)
end
end Go.Proofs.YtfflpeklkfjdnaaGreatDoor
