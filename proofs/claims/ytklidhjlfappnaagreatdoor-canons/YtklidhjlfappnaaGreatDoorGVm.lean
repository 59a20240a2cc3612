import Derived.Deep.RegionHeld3
import Derived.Test.YtklidhjlfappnaaGreatDoorGPure
import Derived.Test.YtklidhjlfappnaaGreatDoorGTp
import Derived.Test.YtklidhjlfappnaaGreatDoorGQa
import Derived.Test.YtklidhjlfappnaaGreatDoorGVb
set_option linter.unusedSimpArgs false
set_option linter.unusedVariables false
set_option linter.unusedSectionVars false
namespace Go.Proofs.YtklidhjlfappnaaGreatDoor
open Go Go.RowKit Go.ChangeMaps Un
theorem vT_len (i : Nat) (h : i ≤ 900) : (bs (39 :: vT i)).size ≤ 1000 := by
  rw [bs_size]
  have := dec_len i
  simp [vT]
  omega
theorem two_of {α : Type} {l : List α} (h : l.length = 2) : ∃ x y, l = [x, y] := by
  match l, h with
  | [x, y], _ => exact ⟨x, y, rfl⟩
theorem varsL_mono (l : List Ty) (a : List Nat) : a.length ≤ (varsL a l).length := (varsL_pre l a).length_le
theorem vars_mono (t : Ty) (a : List Nat) : a.length ≤ (vars a t).length := (vars_pre t a).length_le
theorem spL_app : ∀ (x y : List Ty) (a : List Nat), spL a (x ++ y) = spL a x ++ spL (varsL a x) y
  | [], y, a => rfl
  | t :: x, y, a => by simp [spL, varsL, spL_app x y]
theorem spL_at (l : List Ty) (a : List Nat) (i : Nat) (h : i < l.length) : (spL a l)[i]'(by rw [spL_len]; exact h) = sp (varsL a (l.take i)) l[i] := by
  have h1 := (spL_take l a i h).1
  have h2 : (spL a l)[i]? = (spL a (l.take (i + 1)))[i]? := by
    have e : spL a l = spL a (l.take (i + 1)) ++ spL (varsL a (l.take (i + 1))) (l.drop (i + 1)) := by
      rw [← spL_app, List.take_append_drop]
    rw [e, List.getElem?_append_left (by rw [spL_len]; simp; omega)]
  rw [h1, List.getElem?_append_right (by rw [spL_len]; simp; omega), spL_len] at h2
  rw [List.getElem?_eq_getElem (by rw [spL_len]; exact h)] at h2
  have h3 : i - (l.take i).length = 0 := by simp; omega
  rw [h3] at h2
  exact Option.some.inj h2
theorem WN.sp {w : World} {P : Nat → Prop} {T : Ty} {v : Value} (h : TyV w P T v) : Wf T → size T ≤ 900 → ∀ a, (vars a T).length ≤ 900 → WN (sp a T) := by
  induction h with
  | var n =>
    intro _ _ a hv
    simp only [vars] at hv
    refine .var _ _ _ _ _ (vT_len _ ?_)
    have : (Un.seen a n).idxOf n < (Un.seen a n).length := List.idxOf_lt_length_iff.2 (by unfold Un.seen; split <;> simp [*])
    omega
  | con c L sa sc vs hc hrow hr ih =>
    intro hW hs a hv
    obtain ⟨hok, hWL⟩ := hW
    rw [WfL_iff] at hWL
    simp only [size] at hs
    simp only [vars] at hv
    have key : ∀ i (h : i < L.length), WN ((spL a L)[i]'(by rw [spL_len]; exact h)) := fun i hi => by
      rw [spL_at L a i hi]
      have e1 := sizeL_takeQ L i hi
      have e2 := sizeL_take_le L (i + 1)
      refine ih i hi (hWL _ (List.getElem_mem hi)) (by omega) _ ?_
      rw [← (spL_take L a i hi).2]
      exact Nat.le_trans (varsL_take_le L a (i + 1)) hv
    have hl := len_sizeL L
    rcases hc with rfl | rfl | hu
    · have h2 : (spL a L).length = 2 := by rw [spL_len]; exact hok.2 (Or.inl rfl)
      have hL2 : L.length = 2 := hok.2 (Or.inl rfl)
      obtain ⟨x, y, e⟩ := two_of h2
      have hk : kd nFn = 17 := by unfold kd; rw [if_pos ((isF_iff nFn).2 rfl)]
      simp only [Go.Proofs.YtklidhjlfappnaaGreatDoor.sp, hk]
      have k0 := key 0 (by omega)
      have k1 := key 1 (by omega)
      simp only [e] at k0 k1 ⊢
      exact .fn _ _ _ _ _ _ _ k0 k1
    · have h2 : (spL a L).length = 2 := by rw [spL_len]; exact hok.2 (Or.inr rfl)
      have hL2 : L.length = 2 := hok.2 (Or.inr rfl)
      obtain ⟨x, y, e⟩ := two_of h2
      have hne : ¬ nPr = nFn := by intro e; have := congrArg ByteArray.toList e; rw [show nPr.toList = [44] from toList_mk [44], show nFn.toList = [62] from toList_mk [62]] at this; simp at this
      have hk : kd nPr = 6 := by unfold kd; rw [if_neg (fun q => hne ((isF_iff nPr).1 q)), if_pos ((isP_iff nPr).2 rfl)]
      simp only [Go.Proofs.YtklidhjlfappnaaGreatDoor.sp, hk]
      have k0 := key 0 (by omega)
      have k1 := key 1 (by omega)
      simp only [e] at k0 k1 ⊢
      exact .pr _ _ _ _ _ _ _ k0 k1
    · have hk : kd c = 2 := by
        unfold kd
        rw [if_neg (fun q => upN_ne hu 62 [] (by decide) (by rw [(isF_iff c).1 q]; exact toList_mk [62])), if_neg (fun q => upN_ne hu 44 [] (by decide) (by rw [(isP_iff c).1 q]; exact toList_mk [44]))]
      simp only [Go.Proofs.YtklidhjlfappnaaGreatDoor.sp, hk]
      refine .up _ _ _ _ _ _ hok.1 (by rw [spL_len]; omega) (fun i hi => key i (by rw [spL_len] at hi; exact hi))
theorem TyV.wr_ne {w : World} {P : Nat → Prop} {T : Ty} {v : Value} (h : TyV w P T v) (L : List Nat) : wr dec L T 0 ≠ [] := by
  cases h with
  | var n => simp [wr]
  | con c l sa sc vs hc hrow hr =>
    simp only [wr]
    unfold joined
    split
    · unfold Un.par; simp
    · split
      · simp
      · rename_i h1 h2
        rcases hc with rfl | rfl | hu
        · exact absurd rfl h1
        · exact absurd rfl h2
        · obtain ⟨x, r, e, _⟩ := hu
          unfold Un.par
          simp [e]
section
variable {w : World}
set_option maxRecDepth 100000 in
set_option maxHeartbeats 1000000 in
theorem penOp_C (p : Addr) (x y z : Int) : Calls Tryz.prog 139 #[.pointer (some p), .int .i64 x, .int .i64 y, .int .i64 z] w fun e w' => (∃ v, e = .returned v) ∧ Below w.heap.size w w' := by
  have hmf : ∀ (fn : Fn) (first cap : Array Value) (w : World), (Instr.makeFunc fn first cap).run Tryz.prog w = .ok (.func fn first cap) w := fun _ _ _ _ => rfl
  go_enter Tryz.func139, Tryz.ntmps139
  go_wp2_with fail
  go_ret
  exact ⟨⟨_, rfl⟩, ((((Below.refl _ _).alloc (Nat.le_refl _) _).alloc (by simp) _).alloc (by simp; omega) _).alloc (by simp; omega) _⟩
set_option maxRecDepth 100000 in
set_option maxHeartbeats 1000000 in
theorem penRules_C (p : Addr) : Calls Tryz.prog 80 #[.pointer (some p)] w (RulesPost w) := by
  have H := hide (Ma.new (w := w))
  have HB := hide ((Below.refl w.heap.size w).alloc (Nat.le_refl _) (.map #[] 0))
  have hmm := @run_makeMap Tryz.prog
  go_enter Tryz.func80, Tryz.ntmps80
  go_wp2_with (first | (refine wpList_put _ rfl _ _ _ _ (Or.inl rfl) (KL.str Tryz.underlying9) Tryz.underlying92 _ _ rfl (unhide H) _ _ rfl rfl trivial (fun _ _ => trivial) ?_; clear H; intro w' H' O'; have H := hide H'; have HB := hide (One.below (unhide HB) O' (by exact Nat.le_refl _)); clear H' O') | (go_at_call 139; refine (penOp_C _ _ _ _).mono ?_; rintro e w' ⟨⟨v, rfl⟩, hb⟩; have H := hide ((unhide H).below hb); have HB := hide ((unhide HB).trans (hb.mono (unhide HB).size)); clear hb))
  go_ret
  exact ⟨_, rfl, by simp, unhide HB⟩
set_option maxRecDepth 100000 in
set_option maxHeartbeats 1000000 in
theorem newPen_C : Calls Tryz.prog 43 #[] w fun e w' => e = .returned (.pointer (some ⟨w.heap.size, 0, none⟩)) ∧ (∃ mv, PN w' w.heap.size w.heap.size (.slice none 0 0) [] ⟨#[]⟩ mv) ∧ Below w.heap.size w w' := by
  have hb0 : Below w.heap.size w (w.alloc (.cells #[.pointer none, .slice none 0 0, .string ⟨#[]⟩, .map none] 94)) := (Below.refl _ _).alloc (Nat.le_refl _) _
  have h0 : (w.alloc (.cells #[.pointer none, .slice none 0 0, .string ⟨#[]⟩, .map none] 94)).heap[w.heap.size]? = some (.cells #[.pointer none, .slice none 0 0, .string ⟨#[]⟩, .map none] 94 (0, 0)) := (MapKept.heap_alloc w _).1
  have H0 := hide h0
  clear h0
  go_enter Tryz.func43, Tryz.ntmps43
  go_wp2_with (go_at_call 80; refine (penRules_C _).mono ?_; rintro e w1 ⟨b, rfl, hle, hb⟩; have h1 : w1.heap[w.heap.size]? = some (.cells #[.pointer none, .slice none 0 0, .string ⟨#[]⟩, .map none] 94 (0, 0)) := (hb.block _ (by simp)).trans (unhide H0); have c3 : w1.cell? ⟨w.heap.size, 3, none⟩ = some (.map none) := (by simp [World.cell?, h1]); have f3 : w1.frozen? ⟨w.heap.size, 3, none⟩ = false := (by simp [World.frozen?, h1]); have H1 := hide h1; have HB1 := hide (hb0.trans (hb.mono hb0.size)); clear h1 hb)
  go_ret
  have hz := (unhide HB1).size
  exact ⟨rfl, ⟨.map (some b), ⟨_, (setCell_heap (unhide H1) 3 _).trans (by simp), Or.inl rfl⟩, ⟨rfl, Or.inl ⟨rfl, rfl⟩⟩, fun _ => rfl, by simp [World.setCell]; exact hz⟩, (unhide HB1).setCell (p := ⟨w.heap.size, 3, none⟩) (Nat.le_refl _) _⟩
end
end Go.Proofs.YtklidhjlfappnaaGreatDoor
namespace Go.Proofs.YtklidhjlfappnaaGreatDoor
open Go Go.RowKit Go.ChangeMaps Un
def byS : Option (ByteArray × List Nat) → ByteArray
  | none => ⟨#[]⟩
  | some (c, _) => pn c
abbrev nA (n : Nat) : Value := .pointer (some ⟨n, 0, none⟩)
def nP : Option Nat → Value
  | none => .pointer none
  | some m => nA m
def slN : Option (ByteArray × List Nat) → Nat
  | none => 0
  | some (_, l) => l.length
def PartsAt (w : World) (ds : List Nat) (sa : Option Addr) : Option (ByteArray × List Nat) → Prop
  | none => True
  | some (c, l) => CN c ∧ l.length ≤ 1001 ∧ (∀ m ∈ l, m ∈ ds) ∧ (l = [] ∨ ∃ g, sa = some ⟨g, 0, none⟩ ∧ ¬ g ∈ ds ∧ g < w.heap.size ∧ ∀ i (h : i < l.length), w.cell? ⟨g, i, none⟩ = some (nA l[i]))
/-- A node in memory. -/
def NodeAt (w : World) (ds : List Nat) (str : Str) (nx : Nx) (vr : Nat → Nat) (ly : Nat → Option Addr × Nat) (n : Nat) : Prop :=
  w.heap[n]? = some (.cells #[nP (nx n), .int .i64 (vr n : Int), .string (byS (str n)), .slice (ly n).1 (slN (str n)) (ly n).2] 224 (0, 0)) ∧ PartsAt w ds (ly n).1 (str n) ∧ ∀ m, nx n = some m → m ∈ ds
/-- Nodes in memory. -/
structure GN (w : World) (ds : List Nat) (str : Str) (nx : Nx) (vr : Nat → Nat) (ly : Nat → Option Addr × Nat) : Prop where
  nd : ∀ n, n ∈ ds → NodeAt w ds str nx vr ly n
  out : ∀ n, ¬ n ∈ ds → nx n = none ∧ str n = none
  hd : ∀ n, n ∈ ds → ∃ h, Hd nx n h
/-- How far it is to the head. -/
inductive HdL (nx : Nx) : Nat → Nat → Nat → Prop where
  | here {n : Nat} : nx n = none → HdL nx n n 0
  | step {n m h k : Nat} : nx n = some m → HdL nx m h k → HdL nx n h (k + 1)
theorem Hd.len {nx : Nx} {n h : Nat} (k : Hd nx n h) : ∃ j, HdL nx n h j := by
  induction k with
  | here e => exact ⟨0, .here e⟩
  | step e _ ih => obtain ⟨j, hj⟩ := ih; exact ⟨j + 1, .step e hj⟩
theorem HdL.hd {nx : Nx} {n h j : Nat} (k : HdL nx n h j) : Hd nx n h := by
  induction k with
  | here e => exact .here e
  | step e _ ih => exact .step e ih
theorem HdL.one {nx : Nx} {n h j h' j' : Nat} (k : HdL nx n h j) (k' : HdL nx n h' j') : j = j' := by
  induction k generalizing j' with
  | here e => cases k' with
    | here => rfl
    | step e' _ => rw [e] at e'; cases e'
  | step e _ ih => cases k' with
    | here e' => rw [e] at e'; cases e'
    | step e' k' => rw [e] at e'; cases e'; rw [ih k']
theorem HdL.upd {nx : Nx} {x h j : Nat} (k : HdL nx x h j) {n hn jn : Nat} (kn : HdL nx n hn jn) (hlt : j < jn) (v : Option Nat) : HdL (upd nx n v) x h j := by
  induction k with
  | @here x e =>
    have : x ≠ n := fun q => by subst q; have := (HdL.here e).one kn; omega
    exact .here (by simpa [Un.upd, this] using e)
  | @step x m h k e kk ih =>
    have : x ≠ n := fun q => by subst q; have := (HdL.step e kk).one kn; omega
    exact .step (m := m) (by simpa [Un.upd, this] using e) (ih (by omega))
/-- What stays where ways get shorter. -/
structure Eqv (str : Str) (nx nx' : Nx) : Prop where
  sol : ∀ V, Sol str nx' V ↔ Sol str nx V
  clo : ∀ P, Clo str nx P → Clo str nx' P
  eqs : ∀ P E, Un.Eq nx' P E → Un.Eq nx P E
  hds : ∀ x h, Hd nx x h → Hd nx' x h
  non : ∀ n, nx' n = none ↔ nx n = none
theorem Eqv.refl (str : Str) (nx : Nx) : Eqv str nx nx := ⟨fun _ => Iff.rfl, fun _ h => h, fun _ _ h => h, fun _ _ h => h, fun _ => Iff.rfl⟩
theorem Eqv.trans {str : Str} {a b c : Nx} (h : Eqv str a b) (k : Eqv str b c) : Eqv str a c :=
  ⟨fun V => (k.sol V).trans (h.sol V), fun P q => k.clo P (h.clo P q), fun P E q => h.eqs P E (k.eqs P E q), fun x y q => k.hds x y (h.hds x y q), fun n => (k.non n).trans (h.non n)⟩
theorem Eqv.short (str : Str) {nx : Nx} {n m k : Nat} (h1 : nx n = some m) (h2 : nx m = some k) (hne : n ≠ m) : Eqv str nx (Un.upd nx n (some k)) :=
  ⟨fun V => Sol.short h1 h2 hne, fun P h => h.short h1 h2 hne, fun P E q => q.of_short h1 h2 hne, fun x h j => j.short h1 h2, fun x => by
    by_cases e : x = n
    · subst e; simp [Un.upd, h1]
    · simp [Un.upd, e]⟩
theorem NodeAt.cells {w : World} {ds : List Nat} {str : Str} {nx : Nx} {vr : Nat → Nat} {ly : Nat → Option Addr × Nat} {n : Nat} (h : NodeAt w ds str nx vr ly n) : w.cell? ⟨n, 0, none⟩ = some (nP (nx n)) ∧ w.frozen? ⟨n, 0, none⟩ = false ∧ w.cell? ⟨n, 2, none⟩ = some (.string (byS (str n))) ∧ w.cell? ⟨n, 1, none⟩ = some (.int .i64 (vr n : Int)) ∧ w.cell? ⟨n, 3, none⟩ = some (.slice (ly n).1 (slN (str n)) (ly n).2) := by
  obtain ⟨h1, _⟩ := h
  exact ⟨by simp [World.cell?, h1], by simp [World.frozen?, h1], by simp [World.cell?, h1], by simp [World.cell?, h1], by simp [World.cell?, h1]⟩
/-- A node's next one is turned. -/
theorem GN.set {w : World} {ds : List Nat} {str : Str} {nx : Nx} {vr : Nat → Nat} {ly : Nat → Option Addr × Nat} (h : GN w ds str nx vr ly) {n k : Nat} (hn : n ∈ ds) (hk : k ∈ ds) (hhd : ∀ x, x ∈ ds → ∃ y, Hd (Un.upd nx n (some k)) x y) : GN (w.setCell ⟨n, 0, none⟩ (nA k)) ds str (Un.upd nx n (some k)) vr ly := by
  refine ⟨fun x hx => ?_, fun x hx => ?_, hhd⟩
  · obtain ⟨h1, h2, h3⟩ := h.nd x hx
    have hp : PartsAt (w.setCell ⟨n, 0, none⟩ (nA k)) ds (ly x).1 (str x) := by
      cases hs : str x with
      | none => trivial
      | some p =>
        obtain ⟨c, l⟩ := p
        rw [hs] at h2
        obtain ⟨p1, p2, p3, p4⟩ := h2
        refine ⟨p1, p2, p3, p4.imp id fun q => ?_⟩
        obtain ⟨g, q1, q2, q3, q4⟩ := q
        refine ⟨g, q1, q2, by simpa [World.setCell] using q3, fun i hi => ?_⟩
        rw [World.cell?_setCell_other _ _ _ _ (by intro e; injection e with e; subst e; exact q2 hn)]
        exact q4 i hi
    by_cases e : x = n
    · subst e
      refine ⟨(setCell_heap h1 0 _).trans (by simp [Un.upd, nP]), hp, fun m hm => ?_⟩
      simp [Un.upd] at hm
      subst hm
      exact hk
    · refine ⟨?_, hp, fun m hm => h3 m (by simpa [Un.upd, e] using hm)⟩
      rw [Below.heap_setCell _ _ _ _ e, h1]
      simp [Un.upd, e]
  · have : x ≠ n := fun e => hx (e ▸ hn)
    simpa [Un.upd, this] using h.out x hx
def HeadPost (ds : List Nat) (str : Str) (nx : Nx) (vr : Nat → Nat) (ly : Nat → Option Addr × Nat) (h : Nat) (w : World) (e : Ending) (w' : World) : Prop :=
  e = .returned (nA h) ∧ ∃ nx', GN w' ds str nx' vr ly ∧ Fr (fun b => b ∈ ds) w w' ∧ Eqv str nx nx' ∧ w'.heap.size = w.heap.size
def HeadRel' (ds : List Nat) (str : Str) (nx : Nx) (vr : Nat → Nat) (ly : Nat → Option Addr × Nat) (h : Nat) (w : World) (gk : Nat) (v : Value) (wr : World) : Prop :=
  ∃ n nx', v = nA n ∧ n ∈ ds ∧ HdL nx' n h gk ∧ GN wr ds str nx' vr ly ∧ Fr (fun b => b ∈ ds) w wr ∧ Eqv str nx nx' ∧ wr.heap.size = w.heap.size
section
variable {w : World} {ds : List Nat} {str : Str} {nx : Nx} {vr : Nat → Nat} {ly : Nat → Option Addr × Nat}
set_option maxRecDepth 100000 in
set_option maxHeartbeats 2000000 in
theorem head_P (hg : GN w ds str nx vr ly) {n h : Nat} (hn : n ∈ ds) (hh : Hd nx n h) : Calls Tryz.prog 88 #[nA n] w (HeadPost ds str nx vr ly h w) := by
  obtain ⟨j0, hj0⟩ := Hd.len hh
  have HG := hide hg
  have HJ := hide hj0
  clear hg hj0 hh
  go_enter Tryz.func88, Tryz.ntmps88
  go_wp2_with fail
  go_loopg [0] j0 (fun gk v wr => HeadRel' ds str nx vr ly h w gk v wr)
  case atStart => exact ⟨n, nx, rfl, hn, unhide HJ, unhide HG, Fr.refl _ _, Eqv.refl _ _, rfl⟩
  case round =>
    clear HG HJ
    obtain ⟨n1, nx1, rfl, hn1, hl1, G1, F1, E1, z1⟩ := hrel
    obtain ⟨c0, f0, _⟩ := (G1.nd n1 hn1).cells
    cases hl1 with
    | here e0 =>
      rw [e0] at c0
      have c0' : wr.cell? ⟨h, 0, none⟩ = some (.pointer none) := c0
      clear c0
      go_wp2_with fail
      go_ret
      exact ⟨rfl, nx1, G1, F1, E1, z1⟩
    | @step _ m _ k e0 hlm =>
      have hm : m ∈ ds := by
        obtain ⟨_, _, h3⟩ := G1.nd n1 hn1
        exact h3 m e0
      have hne : n1 ≠ m := fun q => by subst q; have := (HdL.step e0 hlm).one hlm; omega
      rw [e0] at c0
      have c0' : wr.cell? ⟨n1, 0, none⟩ = some (.pointer (some ⟨m, 0, none⟩)) := c0
      obtain ⟨d0, _⟩ := (G1.nd m hm).cells
      clear c0
      cases hlm with
      | here e1 =>
        rw [e1] at d0
        have d0' : wr.cell? ⟨h, 0, none⟩ = some (.pointer none) := d0
        clear d0
        go_wp2_with fail
        go_roundg 0
        case measure => omega
        case rel => exact ⟨h, nx1, rfl, hm, .here e1, G1, F1, E1, z1⟩
      | @step _ m2 _ k2 e1 hl2 =>
        rw [e1] at d0
        have d0' : wr.cell? ⟨m, 0, none⟩ = some (.pointer (some ⟨m2, 0, none⟩)) := d0
        have hm2 : m2 ∈ ds := by
          obtain ⟨_, _, h3⟩ := G1.nd m hm
          exact h3 m2 e1
        clear d0
        have hnm : ¬ m = n1 := fun q => hne q.symm
        go_wp2_with fail
        go_roundg k2
        case measure => omega
        case rel =>
          refine ⟨m2, Un.upd nx1 n1 (some m2), rfl, hm2, hl2.upd (HdL.step e0 (HdL.step e1 hl2)) (by omega) _, G1.set hn1 hm2 (fun x hx => ?_), F1.set (Or.inl hn1) 0 _, E1.trans (Eqv.short str e0 e1 hne), by simp [World.setCell]; exact z1⟩
          obtain ⟨y, hy⟩ := G1.hd x hx
          exact ⟨y, hy.short e0 e1⟩
end
end Go.Proofs.YtklidhjlfappnaaGreatDoor
namespace Go.Proofs.YtklidhjlfappnaaGreatDoor
open Go Go.RowKit Go.ChangeMaps Un
def hc (nx : Nx) (ds : List Nat) : Nat := (ds.filter fun n => (nx n).isNone).length
theorem hc_eqv {str : Str} {nx nx' : Nx} (h : Eqv str nx nx') (ds : List Nat) : hc nx' ds = hc nx ds := by
  unfold hc
  congr 1
  apply List.filter_congr
  intro x _
  have := h.non x
  cases e : nx' x <;> cases e' : nx x <;> simp [e, e'] at this ⊢
theorem hc_upd {nx : Nx} {a b : Nat} (ha : nx a = none) : ∀ {ds : List Nat}, a ∈ ds → hc (Un.upd nx a (some b)) ds < hc nx ds := by
  have hle : ∀ ds : List Nat, hc (Un.upd nx a (some b)) ds ≤ hc nx ds := by
    intro ds
    induction ds with
    | nil => exact Nat.le_refl _
    | cons x l ih =>
      unfold hc at ih ⊢
      by_cases e : x = a
      · subst e
        rw [List.filter_cons_of_neg (by simp [Un.upd])]
        exact Nat.le_trans ih (by rw [List.filter_cons_of_pos (by simp [ha])]; simp)
      · have e1 : Un.upd nx a (some b) x = nx x := by simp [Un.upd, e]
        by_cases e2 : (nx x).isNone = true
        · rw [List.filter_cons_of_pos (by rw [e1]; exact e2), List.filter_cons_of_pos (p := fun n => (nx n).isNone) e2]
          simpa using ih
        · rw [List.filter_cons_of_neg (by rw [e1]; exact e2), List.filter_cons_of_neg (p := fun n => (nx n).isNone) e2]
          exact ih
  intro ds h
  induction ds with
  | nil => simp at h
  | cons x l ih =>
    by_cases e : x = a
    · subst e
      have h1 : hc (Un.upd nx x (some b)) (x :: l) = hc (Un.upd nx x (some b)) l := by
        unfold hc
        rw [List.filter_cons_of_neg (by simp [Un.upd])]
      have h2 : hc nx (x :: l) = hc nx l + 1 := by
        unfold hc
        rw [List.filter_cons_of_pos (by simp [ha])]
        simp
      have := hle l
      omega
    · have := ih ((List.mem_cons.1 h).resolve_left (fun q => e q.symm))
      have e1 : Un.upd nx a (some b) x = nx x := by simp [Un.upd, e]
      unfold hc at this ⊢
      by_cases e2 : (nx x).isNone = true
      · rw [List.filter_cons_of_pos (by rw [e1]; exact e2), List.filter_cons_of_pos (p := fun n => (nx n).isNone) e2]
        simpa using this
      · rw [List.filter_cons_of_neg (by rw [e1]; exact e2), List.filter_cons_of_neg (p := fun n => (nx n).isNone) e2]
        exact this
/-- What joining two nodes comes to. -/
structure JR (str : Str) (nx nx' : Nx) (x y : Nat) (ok : Bool) : Prop where
  eqs : ∀ P E, Un.Eq nx' P E → Un.Eq nx P E
  yes : ok = true → (∀ V, Sol str nx' V ↔ Sol str nx V ∧ V x = V y) ∧ (∀ P, Clo str nx P → Clo str nx' P) ∧ (∀ P E, Un.Eq nx' P E → E x y)
  no : ok = false → ∀ V, Sol str nx V → V x ≠ V y
theorem JR.heads {str : Str} {nx nx2 nx' : Nx} {x y a b : Nat} {ok : Bool} (h : JR str nx2 nx' a b ok) (e : Eqv str nx nx2) (hx : Hd nx x a) (hy : Hd nx y b) : JR str nx nx' x y ok := by
  refine ⟨fun P E q => e.eqs P E (h.eqs P E q), fun hk => ?_, fun hk V hV => ?_⟩
  · obtain ⟨h1, h2, h3⟩ := h.yes hk
    refine ⟨fun V => ?_, fun P q => h2 P (e.clo P q), fun P E q => ?_⟩
    · rw [h1 V, e.sol V]
      constructor
      · rintro ⟨s, t⟩; exact ⟨s, by rw [hx.sol s, hy.sol s]; exact t⟩
      · rintro ⟨s, t⟩; exact ⟨s, by rw [← hx.sol s, ← hy.sol s]; exact t⟩
    · have q1 := e.eqs P E (h.eqs P E q)
      exact q1.trans _ _ _ (hx.eq q1) (q1.trans _ _ _ (h3 P E q) (q1.symm _ _ (hy.eq q1)))
  · have := h.no hk V ((e.sol V).2 hV)
    rw [hx.sol hV, hy.sol hV]
    exact this
theorem JR.same (str : Str) (nx : Nx) (a : Nat) : JR str nx nx a a true := ⟨fun _ _ q => q, fun _ => ⟨fun V => by simp, fun _ q => q, fun P E q => q.refl a⟩, fun h => by cases h⟩
theorem JR.varL {str : Str} {nx : Nx} {a b : Nat} (ha : nx a = none) (hs : str a = none) : JR str nx (Un.upd nx a (some b)) a b true :=
  ⟨fun P E q => (q.of_join ha).1, fun _ => ⟨fun V => Sol.join ha, fun P q => q.var ha hs, fun P E q => (q.of_join ha).2⟩, fun h => by cases h⟩
theorem JR.varR {str : Str} {nx : Nx} {a b : Nat} (hb : nx b = none) (hs : str b = none) : JR str nx (Un.upd nx b (some a)) a b true :=
  ⟨fun P E q => (q.of_join hb).1, fun _ => ⟨fun V => (Sol.join hb).trans (by constructor <;> rintro ⟨s, t⟩ <;> exact ⟨s, t.symm⟩), fun P q => q.var hb hs, fun P E q => q.symm _ _ (q.of_join hb).2⟩, fun h => by cases h⟩
theorem JR.clash {str : Str} {nx : Nx} {a b : Nat} {c c' : ByteArray} {l l' : List Nat} (ha : str a = some (c, l)) (hb : str b = some (c', l')) (h : c ≠ c' ∨ l.length ≠ l'.length) : JR str nx nx a b false := by
  refine ⟨fun _ _ q => q, fun h => (by cases h), fun _ V s e => ?_⟩
  rw [s.made a c l ha, s.made b c' l' hb] at e
  injection e with e1 e2
  rcases h with h | h
  · exact h e1
  · exact h (by have := congrArg List.length e2; simpa using this)
/-- How far the parts of two nodes are joined. -/
structure JL (str : Str) (nxu nxj : Nx) (l l' : List Nat) (j : Nat) : Prop where
  eqs : ∀ P E, Un.Eq nxj P E → Un.Eq nxu P E
  sol : ∀ V, Sol str nxj V ↔ Sol str nxu V ∧ ∀ i (h : i < l.length) (h' : i < l'.length), i < j → V l[i] = V l'[i]
  clo : ∀ P, Clo str nxu P → Clo str nxj P
  prs : ∀ i (h : i < l.length) (h' : i < l'.length), i < j → ∀ P E, Un.Eq nxj P E → E l[i] l'[i]
theorem JL.start (str : Str) (nx : Nx) (l l' : List Nat) : JL str nx nx l l' 0 := by
  refine ⟨fun _ _ q => q, fun V => ⟨fun s => ⟨s, ?_⟩, fun s => s.1⟩, fun _ q => q, ?_⟩
  · exact fun i _ _ h => absurd h (Nat.not_lt_zero _)
  · exact fun i _ _ h => absurd h (Nat.not_lt_zero _)
theorem JL.step {str : Str} {nxu nxj nx' : Nx} {l l' : List Nat} {j : Nat} (h : JL str nxu nxj l l' j) (hj : j < l.length) (hj' : j < l'.length) (k : JR str nxj nx' l[j] l'[j] true) : JL str nxu nx' l l' (j + 1) := by
  obtain ⟨k1, k2, k3⟩ := k.yes rfl
  refine ⟨fun P E q => h.eqs P E (k.eqs P E q), fun V => ?_, fun P q => k2 P (h.clo P q), fun i hi hi' hij P E q => ?_⟩
  · rw [k1 V, h.sol V]
    constructor
    · rintro ⟨⟨s, t⟩, u⟩
      refine ⟨s, fun i hi hi' hij => ?_⟩
      by_cases e : i = j
      · subst e; exact u
      · exact t i hi hi' (by omega)
    · rintro ⟨s, t⟩
      exact ⟨⟨s, fun i hi hi' hij => t i hi hi' (by omega)⟩, t j hj hj' (by omega)⟩
  · by_cases e : i = j
    · subst e; exact k3 P E q
    · exact h.prs i hi hi' (by omega) P E (k.eqs P E q)
theorem map_eq_parts {V : Nat → Ty} {l l' : List Nat} (h : l.map V = l'.map V) (i : Nat) (hi : i < l.length) (hi' : i < l'.length) : V l[i] = V l'[i] := by
  have := congrArg (fun x => x[i]?) h
  simpa [hi, hi'] using this
theorem JL.done {str : Str} {nx nxj : Nx} {a b : Nat} {c : ByteArray} {l l' : List Nat} (ha : nx a = none) (hs : str a = some (c, l)) (hs' : str b = some (c, l')) (hl : l.length = l'.length) (h : JL str (Un.upd nx a (some b)) nxj l l' l.length) : JR str nx nxj a b true := by
  refine ⟨fun P E q => ((h.eqs P E q).of_join ha).1, fun _ => ⟨fun V => ?_, fun P q => ?_, fun P E q => ((h.eqs P E q).of_join ha).2⟩, fun h => by cases h⟩
  · rw [h.sol V, Sol.join ha]
    constructor
    · rintro ⟨⟨s, t⟩, _⟩; exact ⟨s, t⟩
    · rintro ⟨s, t⟩
      refine ⟨⟨s, t⟩, fun i hi hi' _ => ?_⟩
      rw [s.made a c l hs, s.made b c l' hs'] at t
      injection t with _ t
      exact map_eq_parts t i hi hi'
  · have h1 := h.clo _ (q.con ha hs hs' hl)
    refine h1.paid fun E hE m n hm => ?_
    obtain ⟨i, hi, e⟩ := List.getElem_of_mem hm
    have hi1 : i < l.length := by simp at hi; omega
    have hi2 : i < l'.length := by simp at hi; omega
    rw [List.getElem_zip] at e
    injection e with e1 e2
    subst e1
    subst e2
    exact h.prs i hi1 hi2 hi1 P E hE
theorem JL.fail {str : Str} {nx nxj nx' : Nx} {a b : Nat} {c : ByteArray} {l l' : List Nat} {j : Nat} (ha : nx a = none) (hs : str a = some (c, l)) (hs' : str b = some (c, l')) (h : JL str (Un.upd nx a (some b)) nxj l l' j) (hj : j < l.length) (hj' : j < l'.length) (k : JR str nxj nx' l[j] l'[j] false) : JR str nx nx' a b false := by
  refine ⟨fun P E q => ((h.eqs P E (k.eqs P E q)).of_join ha).1, fun h => (by cases h), fun _ V s e => ?_⟩
  have t := e
  rw [s.made a c l hs, s.made b c l' hs'] at t
  injection t with _ t
  have s1 : Sol str nxj V := (h.sol V).2 ⟨(Sol.join ha).2 ⟨s, e⟩, fun i hi hi' _ => map_eq_parts t i hi hi'⟩
  exact k.no rfl V s1 (map_eq_parts t j hj hj')
theorem pn_ne {c : ByteArray} (h : CN c) : (pn c).toList ≠ [] := by
  rcases h with rfl | rfl | h
  · rw [pn_fn, show (ByteArray.mk #[45, 62]).toList = [45, 62] from toList_mk [45, 62]]; simp
  · rw [pn_pr, show (ByteArray.mk #[44]).toList = [44] from toList_mk [44]]; simp
  · rw [pn_up h]; obtain ⟨x, r, e, _⟩ := h; rw [e]; simp
theorem pn_inj {c c' : ByteArray} (h : CN c) (h' : CN c') (e : (pn c).toList = (pn c').toList) : c = c' := by
  have f1 : (ByteArray.mk #[45, 62]).toList = [45, 62] := toList_mk [45, 62]
  have f2 : (ByteArray.mk #[44]).toList = [44] := toList_mk [44]
  rcases h with rfl | rfl | h <;> rcases h' with rfl | rfl | h'
  · rfl
  · rw [pn_fn, pn_pr, f1, f2] at e; simp at e
  · rw [pn_fn, pn_up h', f1] at e; exact absurd e.symm (upN_ne h' 45 [62] (by decide))
  · rw [pn_fn, pn_pr, f1, f2] at e; simp at e
  · rfl
  · rw [pn_pr, pn_up h', f2] at e; exact absurd e.symm (upN_ne h' 44 [] (by decide))
  · rw [pn_fn, pn_up h, f1] at e; exact absurd e (upN_ne h 45 [62] (by decide))
  · rw [pn_pr, pn_up h, f2] at e; exact absurd e (upN_ne h 44 [] (by decide))
  · rw [pn_up h, pn_up h'] at e; exact toList_inj e
theorem nodeInfo' : (Tryz.prog.info? 224).map (fun i => i.size) = some 4 := by kernel_rfl
theorem run_eql_ptr {P : Program} {w : World} {tp te : TypeId} {j : TypeInfo} (hu : P.underlying tp = some (.pointer te)) (hj : P.info? te = some j) (hjs : j.size ≠ 0) {a b : Nat} {ca cb : Array Value} {ta tb : TypeId} (ha : w.heap[a]? = some (.cells ca ta (0, 0))) (hb : w.heap[b]? = some (.cells cb tb (0, 0))) : (binOp .eql tp (nA a) (nA b)).run P w = .ok (.bool (decide (a = b))) w := by
  have hq : (Op.equal tp (nA a) (nA b)).run P w = .ok (decide (a = b)) w := by
    unfold Op.equal Op.maxDepth Op.equalIn
    simp only [Sem.run_bind, run_underlying hu, Result.andThen, Go.sizeOf, Go.typeInfo, hj]
    by_cases e : a = b
    · subst e; simp [hjs, run_sameAddr_same, hj]
    · simp [e, hjs, hj, run_sameAddr_other w (a := ⟨a, 0, none⟩) (b := ⟨b, 0, none⟩) (by intro q; injection q with q; exact e q) ha hb]
  simp only [binOp]
  simp [hq]
theorem run_eqlN {w : World} {a b : Nat} {ca cb : Array Value} {ta tb : TypeId} (ha : w.heap[a]? = some (.cells ca ta (0, 0))) (hb : w.heap[b]? = some (.cells cb tb (0, 0))) : (binOp .eql 106 (nA a) (nA b)).run Tryz.prog w = .ok (.bool (decide (a = b))) w := by
  obtain ⟨j, hj, hjs⟩ := Option.map_eq_some_iff.1 nodeInfo'
  exact run_eql_ptr (by kernel_rfl) hj (by omega) ha hb
def JPost (ds : List Nat) (str : Str) (nx : Nx) (vr : Nat → Nat) (ly : Nat → Option Addr × Nat) (x y : Nat) (w : World) (e : Ending) (w' : World) : Prop :=
  ∃ ok nx', e = .returned (.bool ok) ∧ GN w' ds str nx' vr ly ∧ Fr (fun b => b ∈ ds) w w' ∧ w'.heap.size = w.heap.size ∧ hc nx' ds ≤ hc nx ds ∧ JR str nx nx' x y ok
def JoinC (ds : List Nat) (str : Str) (vr : Nat → Nat) (ly : Nat → Option Addr × Nat) (k : Nat) : Prop := ∀ (w : World) (nx : Nx), GN w ds str nx vr ly → hc nx ds ≤ k → ∀ x y, x ∈ ds → y ∈ ds → Calls Tryz.prog 53 #[nA x, nA y] w (JPost ds str nx vr ly x y w)
end Go.Proofs.YtklidhjlfappnaaGreatDoor
namespace Go.Proofs.YtklidhjlfappnaaGreatDoor
open Go Go.RowKit Go.ChangeMaps Un
theorem GN.hd_mem {w : World} {ds : List Nat} {str : Str} {nx : Nx} {vr : Nat → Nat} {ly : Nat → Option Addr × Nat} (g : GN w ds str nx vr ly) {n h : Nat} (hn : n ∈ ds) (k : Hd nx n h) : h ∈ ds := by
  induction k with
  | here => exact hn
  | step e _ ih => exact ih ((g.nd _ hn).2.2 _ e)
theorem hc_pos {nx : Nx} {ds : List Nat} {h : Nat} (hm : h ∈ ds) (hn : nx h = none) : 0 < hc nx ds := by
  unfold hc
  apply List.length_pos_of_mem (a := h)
  rw [List.mem_filter]
  exact ⟨hm, by simp [hn]⟩
theorem GN.drewN {w : World} {ds : List Nat} {str : Str} {nx : Nx} {vr : Nat → Nat} {ly : Nat → Option Addr × Nat} (g : GN w ds str nx vr ly) (n : Nat) : GN (w.drewN n) ds str nx vr ly := ⟨g.nd, g.out, g.hd⟩
theorem GN.drew {w : World} {ds : List Nat} {str : Str} {nx : Nx} {vr : Nat → Nat} {ly : Nat → Option Addr × Nat} (g : GN w ds str nx vr ly) : GN w.drew ds str nx vr ly := ⟨g.nd, g.out, g.hd⟩
theorem GN.row {w : World} {ds : List Nat} {str : Str} {nx : Nx} {vr : Nat → Nat} {ly : Nat → Option Addr × Nat} (g : GN w ds str nx vr ly) {a : Nat} (ha : a ∈ ds) {c : ByteArray} {l : List Nat} (hs : str a = some (c, l)) {j : Nat} (hj : j < l.length) : ∃ ga, (ly a).1 = some ⟨ga, 0, none⟩ ∧ w.cell? ⟨ga, j, none⟩ = some (nA l[j]) ∧ ¬ ga ∈ ds := by
  have h := (g.nd a ha).2.1
  rw [hs] at h
  obtain ⟨_, _, _, h0 | ⟨ga, h1, h2, _, h4⟩⟩ := h
  · subst h0; simp at hj
  · exact ⟨ga, h1, h4 j hj, h2⟩
def JoinRel (ds : List Nat) (str : Str) (nx : Nx) (vr : Nat → Nat) (ly : Nat → Option Addr × Nat) (l l' : List Nat) (k : Nat) (w : World) (gk : Nat) (v : Value) (wr : World) : Prop :=
  ∃ j nxj, Hid (gk = l.length - j) ∧ j ≤ l.length ∧ v = .int .i64 (j : Int) ∧ GN wr ds str nxj vr ly ∧ Fr (fun b => b ∈ ds) w wr ∧ wr.heap.size = w.heap.size ∧ hc nxj ds ≤ k ∧ JL str nx nxj l l' j
section
variable {ds : List Nat} {str : Str} {vr : Nat → Nat} {ly : Nat → Option Addr × Nat} {k : Nat}
set_option maxRecDepth 100000 in
set_option maxHeartbeats 4000000 in
theorem join_step (IH : JoinC ds str vr ly k) : JoinC ds str vr ly (k + 1) := by
  intro w nx G hk x y hx hy
  obtain ⟨a, hda⟩ := G.hd x hx
  obtain ⟨b, hdb⟩ := G.hd y hy
  have ha : a ∈ ds := G.hd_mem hx hda
  have hb : b ∈ ds := G.hd_mem hy hdb
  have hnot : ∀ (x : Bool) (w : World), (Op.unary .not (.bool x)).run Tryz.prog w = .ok (.bool (!x)) w := fun _ _ => rfl
  have HC := hide (head_P G hx hda)
  go_enter Tryz.func53, Tryz.ntmps53
  go_wp2_with fail
  refine (unhide HC).mono ?_
  rintro e w1 ⟨rfl, nx1, G1, F1, E1, z1⟩
  have HC2 := hide (head_P G1 hy (E1.hds _ _ hdb))
  clear HC
  go_wp2_with fail
  refine (unhide HC2).mono ?_
  rintro e w2 ⟨rfl, nx2, G2, F2, E2, z2⟩
  have E := E1.trans E2
  have FF := F1.trans F2
  have hca := hc_eqv E ds
  have hna : nx2 a = none := (E.hds _ _ hda).head
  have hnb : nx2 b = none := (E.hds _ _ hdb).head
  have heq := run_eqlN (G2.nd a ha).1 (G2.nd b hb).1
  obtain ⟨ca0, fa0, ca2, _, ca3⟩ := (G2.nd a ha).cells
  obtain ⟨cb0, fb0, cb2, _, cb3⟩ := (G2.nd b hb).cells
  have HG2 := hide G2
  clear HC2
  by_cases hab : a = b
  · subst hab
    simp at heq
    go_wp2_with fail
    go_ret
    exact ⟨true, nx2, rfl, G2, FF, by omega, by omega, (JR.same str nx2 a).heads E hda hdb⟩
  · have hba : ¬ b = a := fun q => hab q.symm
    rw [show decide (a = b) = false by simp [hab]] at heq
    cases hsa : str a with
    | none =>
      rw [hsa] at ca2
      have ca2' : w2.cell? ⟨a, 2, none⟩ = some (.string ⟨#[]⟩) := ca2
      clear ca2
      go_wp2_with fail
      go_ret
      refine ⟨true, Un.upd nx2 a (some b), rfl, G2.set ha hb (fun z hz => ?_), FF.set (Or.inl ha) 0 _, by simp [World.setCell]; omega, by have := hc_upd (b := b) hna ha; omega, (JR.varL hna hsa).heads E hda hdb⟩
      obtain ⟨q, hq⟩ := G2.hd z hz
      exact ⟨_, hq.join hna hnb hab⟩
    | some pa =>
      obtain ⟨c, l⟩ := pa
      have hPa := (G2.nd a ha).2.1
      rw [hsa] at ca2 ca3 hPa
      have ca2' : w2.cell? ⟨a, 2, none⟩ = some (.string (pn c)) := ca2
      have ca3' : w2.cell? ⟨a, 3, none⟩ = some (.slice (ly a).1 l.length (ly a).2) := ca3
      obtain ⟨hcn, hll, hlm, hrow⟩ := hPa
      have hea : ((pn c).toList == []) = false := by rw [← Bool.not_eq_true, beq_iff_eq]; exact pn_ne hcn
      clear ca2 ca3
      cases hsb : str b with
      | none =>
        rw [hsb] at cb2
        have cb2' : w2.cell? ⟨b, 2, none⟩ = some (.string ⟨#[]⟩) := cb2
        clear cb2
        go_wp2_with fail
        go_ret
        refine ⟨true, Un.upd nx2 b (some a), rfl, G2.set hb ha (fun z hz => ?_), FF.set (Or.inl hb) 0 _, by simp [World.setCell]; omega, by have := hc_upd (b := a) hnb hb; omega, (JR.varR hnb hsb).heads E hda hdb⟩
        obtain ⟨q, hq⟩ := G2.hd z hz
        exact ⟨_, hq.join hnb hna hba⟩
      | some pb =>
        obtain ⟨c', l'⟩ := pb
        have hPb := (G2.nd b hb).2.1
        rw [hsb] at cb2 cb3 hPb
        have cb2' : w2.cell? ⟨b, 2, none⟩ = some (.string (pn c')) := cb2
        have cb3' : w2.cell? ⟨b, 3, none⟩ = some (.slice (ly b).1 l'.length (ly b).2) := cb3
        obtain ⟨hcn', hll', hlm', hrow'⟩ := hPb
        have heb : ((pn c').toList == []) = false := by rw [← Bool.not_eq_true, beq_iff_eq]; exact pn_ne hcn'
        clear cb2 cb3
        by_cases hcc : c = c'
        · subst hcc
          have hbb : ((pn c).toList == (pn c).toList) = true := by simp
          by_cases hlen : l.length = l'.length
          · have hle : ((l.length : Int) == (l'.length : Int)) = true := by simp [hlen]
            have hcu := hc_upd (b := b) hna ha
            have hgs : ∀ z, z ∈ ds → ∃ y, Hd (Un.upd nx2 a (some b)) z y := fun z hz => by
              obtain ⟨q, hq⟩ := G2.hd z hz
              exact ⟨_, hq.join hna hnb hab⟩
            clear cb0 fb0 G1 F1 F2 G
            go_wp2_with fail
            go_quiet (fail)
            go_wp2_with fail
            have GS := hide ((G2.drewN nq).set ha hb hgs)
            have FS := hide ((FF.drewN nq).set (b := a) (Or.inl ha) 0 (nA b))
            have zs : ((w2.drewN nq).setCell ⟨a, 0, none⟩ (nA b)).heap.size = w.heap.size := by simp [World.setCell]; show w2.heap.size = _; omega
            go_loopg [66] l.length (fun gk v wr => JoinRel ds str (Un.upd nx2 a (some b)) vr ly l l' (hc (Un.upd nx2 a (some b)) ds) w gk v wr)
            case atStart => exact ⟨0, Un.upd nx2 a (some b), hide (by simp), Nat.zero_le _, rfl, unhide GS, unhide FS, zs, Nat.le_refl _, JL.start _ _ _ _⟩
            case round =>
              clear GS FS zs
              obtain ⟨j, nxj, hgk, hj, rfl, Gj, Fj, zj, hcj, JLj⟩ := hrel
              by_cases hjl : j < l.length
              · have hd : (j : Int) < (l.length : Int) := by omega
                have hjl' : j < l'.length := by omega
                have hd' : (j : Int) < (l'.length : Int) := by omega
                obtain ⟨ga, ea, ra, _⟩ := Gj.row ha hsa hjl
                obtain ⟨gb, eb, rb, _⟩ := Gj.row hb hsb hjl'
                obtain ⟨_, _, _, _, qa⟩ := (Gj.nd a ha).cells
                obtain ⟨_, _, _, _, qb⟩ := (Gj.nd b hb).cells
                rw [hsa, ea] at qa
                rw [hsb, eb] at qb
                have qa' : wr.cell? ⟨a, 3, none⟩ = some (.slice (some ⟨ga, 0, none⟩) l.length (ly a).2) := qa
                have qb' : wr.cell? ⟨b, 3, none⟩ = some (.slice (some ⟨gb, 0, none⟩) l'.length (ly b).2) := qb
                have HJ : Hid (∀ W, W = wr.drew → Calls Tryz.prog 53 #[nA l[j], nA l'[j]] W fun e w' => ∃ ok nx', e = .returned (.bool ok) ∧ GN w' ds str nx' vr ly ∧ Fr (fun b => b ∈ ds) wr w' ∧ w'.heap.size = wr.heap.size ∧ hc nx' ds ≤ hc (Un.upd nx2 a (some b)) ds ∧ JR str nxj nx' l[j] l'[j] ok ∧ (w'.cell? ⟨a, 3, none⟩ = some (.slice (some ⟨ga, 0, none⟩) l.length (ly a).2) ∧ w'.cell? ⟨b, 3, none⟩ = some (.slice (some ⟨gb, 0, none⟩) l'.length (ly b).2) ∧ w'.cell? ⟨ga, j, none⟩ = some (nA l[j]) ∧ w'.cell? ⟨gb, j, none⟩ = some (nA l'[j]))) := hide (fun W hW => by
                  subst hW
                  refine (IH wr.drew nxj Gj.drew (by omega) l[j] l'[j] (hlm _ (List.getElem_mem _)) (hlm' _ (List.getElem_mem _))).mono ?_
                  rintro e w5 ⟨ok, nx5, rfl, G5, F5, z5, h5, J5⟩
                  obtain ⟨ga5, ea5, ra5, _⟩ := G5.row ha hsa hjl
                  obtain ⟨gb5, eb5, rb5, _⟩ := G5.row hb hsb hjl'
                  obtain ⟨_, _, _, _, pa⟩ := (G5.nd a ha).cells
                  obtain ⟨_, _, _, _, pb⟩ := (G5.nd b hb).cells
                  rw [hsa, ea] at pa
                  rw [hsb, eb] at pb
                  rw [ea] at ea5
                  rw [eb] at eb5
                  cases ea5
                  cases eb5
                  exact ⟨ok, nx5, rfl, G5, (Fr.refl _ wr).drew.trans F5, z5, Nat.le_trans h5 hcj, J5, pa, pb, ra5, rb5⟩)
                clear ea eb qa qb hrow hrow' ca2' cb2' ca3' cb3' heb hea hbb hle IH
                go_wp2_with fail
                go_region_held3 (fun w' => w'.cell? ⟨a, 3, none⟩ = some (.slice (some ⟨ga, 0, none⟩) l.length (ly a).2) ∧ w'.cell? ⟨b, 3, none⟩ = some (.slice (some ⟨gb, 0, none⟩) l'.length (ly b).2) ∧ w'.cell? ⟨ga, j, none⟩ = some (nA l[j]) ∧ w'.cell? ⟨gb, j, none⟩ = some (nA l'[j])) (first | go_keep | (simp [*])) (first | (go_at_call 53; refine (unhide HJ _ rfl).mono ?_; rintro e w5 ⟨ok, nx5, rfl, hG5, hF5, hz5, h5, hJ5, k1, k2, k3, k4⟩; have HG5 := hide hG5; have HF5 := hide hF5; have HZ5 := hide hz5; have HJ5 := hide hJ5; clear hG5 hF5 hz5 hJ5))
                all_goals (
                  cases ok with
                  | true =>
                    go_wp2_with fail
                    go_roundg (l.length - (j + 1))
                    case measure => rw [unhide hgk]; omega
                    case rel => exact ⟨j + 1, nx5, hide rfl, by omega, by go_num, unhide HG5, Fj.trans (unhide HF5), (unhide HZ5).trans zj, h5, JLj.step hjl hjl' (unhide HJ5)⟩
                  | false =>
                    go_wp2_with fail
                    go_ret
                    exact ⟨false, nx5, rfl, unhide HG5, Fj.trans (unhide HF5), (unhide HZ5).trans zj, by omega, (JL.fail hna hsa hsb JLj hjl hjl' (unhide HJ5)).heads E hda hdb⟩)
              · have hd : decide ((j : Int) < (l.length : Int)) = false := by simp; omega
                have ej : j = l.length := by omega
                subst ej
                go_wp2_with fail
                go_ret
                exact ⟨true, nxj, rfl, Gj, Fj, zj, by omega, (JL.done hna hsa hsb hlen JLj).heads E hda hdb⟩
          · have hle : ((l.length : Int) == (l'.length : Int)) = false := by simp; omega
            go_wp2_with fail
            go_quiet (fail)
            go_wp2_with fail
            go_ret
            exact ⟨false, nx2, rfl, G2.drewN _, FF.drewN _, by show w2.heap.size = _; omega, by omega, (JR.clash hsa hsb (Or.inr hlen)).heads E hda hdb⟩
        · have hbb : ((pn c).toList == (pn c').toList) = false := by rw [← Bool.not_eq_true, beq_iff_eq]; exact fun q => hcc (pn_inj hcn hcn' q)
          go_wp2_with fail
          go_quiet (fail)
          go_wp2_with fail
          go_ret
          exact ⟨false, nx2, rfl, G2.drewN _, FF.drewN _, by show w2.heap.size = _; omega, by omega, (JR.clash hsa hsb (Or.inl hcc)).heads E hda hdb⟩
theorem Join_P : ∀ k, JoinC ds str vr ly k
  | 0 => fun w nx G hk x y hx hy => by
    obtain ⟨a, hda⟩ := G.hd x hx
    have := hc_pos (G.hd_mem hx hda) hda.head
    omega
  | k + 1 => join_step (Join_P k)
end
end Go.Proofs.YtklidhjlfappnaaGreatDoor
namespace Go.Proofs.YtklidhjlfappnaaGreatDoor
open Go Go.RowKit Go.ChangeMaps Un
/-- The rows of the map from variables to their nodes. -/
def vlL (vr : Nat → Nat) (vl : List Nat) : List (Int × Value) := vl.map fun n => ((vr n : Int), nA n)
theorem got_vl {vr : Nat → Nat} {v : Nat} : ∀ {vl : List Nat}, (∀ m ∈ vl, vr m ≠ v) → got (v : Int) (vlL vr vl) = none
  | [], _ => rfl
  | m :: l, h => by
    have h1 : ((vr m : Nat) : Int) ≠ (v : Int) := fun e => h m (by simp) (by omega)
    have := got_vl (vr := vr) (v := v) (vl := l) fun x hx => h x (List.mem_cons_of_mem _ hx)
    simp only [vlL] at this
    simp [vlL, got, h1, this]
theorem got_vl_in {vr : Nat → Nat} {n : Nat} : ∀ {vl : List Nat}, n ∈ vl → (∀ m ∈ vl, vr m = vr n → m = n) → got (vr n : Int) (vlL vr vl) = some (nA n)
  | [], h, _ => by simp at h
  | m :: l, h, k => by
    by_cases e : vr m = vr n
    · have := k m (by simp) e
      subst this
      simp [vlL, got]
    · have h1 : ((vr m : Nat) : Int) ≠ (vr n : Int) := fun q => e (by omega)
      have hl : n ∈ l := by
        rcases List.mem_cons.1 h with q | q
        · subst q; exact absurd rfl e
        · exact q
      have := got_vl_in (vr := vr) (n := n) hl fun x hx => k x (List.mem_cons_of_mem _ hx)
      simp only [vlL] at this
      simp [vlL, got, h1, this]
theorem vlL_upd {vr : Nat → Nat} {vl : List Nat} {n v : Nat} (h : ¬ n ∈ vl) : vlL (Un.upd vr n v) vl = vlL vr vl := by
  unfold vlL
  apply List.map_congr_left
  intro m hm
  have : m ≠ n := fun e => h (e ▸ hm)
  simp [Un.upd, this]
section
variable {w w' : World} {ds : List Nat} {str : Str} {nx : Nx} {vr : Nat → Nat} {ly : Nat → Option Addr × Nat}
theorem PartsAt.move {sa : Option Addr} {s : Option (ByteArray × List Nat)} (h : PartsAt w ds sa s) (hs : w.heap.size ≤ w'.heap.size) (hb : ∀ b i v, w.cell? ⟨b, i, none⟩ = some v → w'.heap[b]? = w.heap[b]?) : PartsAt w' ds sa s := by
  cases s with
  | none => trivial
  | some p =>
    obtain ⟨c, l⟩ := p
    obtain ⟨h1, h2, h3, h4⟩ := h
    refine ⟨h1, h2, h3, ?_⟩
    by_cases e : l = []
    · exact Or.inl e
    · obtain ⟨g, q1, q2, q3, q4⟩ := h4.resolve_left e
      refine Or.inr ⟨g, q1, q2, by omega, fun i hi => ?_⟩
      have := q4 i hi
      rw [World.cell?_of_block (a := ⟨g, i, none⟩) (w := w) (hb g i _ this)]
      exact this
theorem GN.move (h : GN w ds str nx vr ly) (hs : w.heap.size ≤ w'.heap.size) (hb : ∀ b i v, w.cell? ⟨b, i, none⟩ = some v → w'.heap[b]? = w.heap[b]?) : GN w' ds str nx vr ly := by
  refine ⟨fun n hn => ?_, h.out, h.hd⟩
  have hc := (h.nd n hn).cells.1
  obtain ⟨h1, h2, h3⟩ := h.nd n hn
  exact ⟨(hb n 0 _ hc).trans h1, h2.move hs hb, h3⟩
theorem PartsAt.more {sa : Option Addr} {s : Option (ByteArray × List Nat)} (h : PartsAt w ds sa s) {n : Nat} (hn : w.heap.size ≤ n) : PartsAt w (n :: ds) sa s := by
  cases s with
  | none => trivial
  | some p =>
    obtain ⟨c, l⟩ := p
    obtain ⟨h1, h2, h3, h4⟩ := h
    refine ⟨h1, h2, fun m hm => List.mem_cons_of_mem _ (h3 m hm), h4.imp id ?_⟩
    rintro ⟨g, q1, q2, q3, q4⟩
    refine ⟨g, q1, fun hg => ?_, q3, q4⟩
    rcases List.mem_cons.1 hg with q | q
    · omega
    · exact q2 q
theorem NodeAt.lt {n : Nat} (h : NodeAt w ds str nx vr ly n) : n < w.heap.size := (Array.getElem?_eq_some_iff.1 h.1).1
/-- A node more. -/
theorem GN.add (h : GN w ds str (fun _ => none) vr ly) (hs : w.heap.size ≤ w'.heap.size) (hb : ∀ b i v, w.cell? ⟨b, i, none⟩ = some v → w'.heap[b]? = w.heap[b]?) {n : Nat} (hn : w.heap.size ≤ n) (s : Option (ByteArray × List Nat)) (v : Nat) (a : Option Addr × Nat)
    (hh : w'.heap[n]? = some (.cells #[.pointer none, .int .i64 (v : Int), .string (byS s), .slice a.1 (slN s) a.2] 224 (0, 0))) (hp : PartsAt w' (n :: ds) a.1 s) :
    GN w' (n :: ds) (Un.upd str n s) (fun _ => none) (Un.upd vr n v) (Un.upd ly n a) := by
  refine ⟨fun x hx => ?_, fun x hx => ?_, fun x _ => ⟨x, .here rfl⟩⟩
  · by_cases e : x = n
    · subst e
      refine ⟨by simpa [Un.upd, nP] using hh, by simpa [Un.upd] using hp, fun m hm => by cases hm⟩
    · have hx' : x ∈ ds := (List.mem_cons.1 hx).resolve_left e
      have hc := (h.nd x hx').cells.1
      obtain ⟨h1, h2, h3⟩ := h.nd x hx'
      refine ⟨?_, ?_, fun m hm => by cases hm⟩
      · rw [hb x 0 _ hc, h1]; simp [Un.upd, e]
      · simp only [Un.upd, e, if_false]
        exact (h2.more hn).move hs hb
  · have hx' : x ≠ n ∧ ¬ x ∈ ds := ⟨fun e => hx (by simp [e]), fun e => hx (by simp [e])⟩
    exact ⟨rfl, by simpa [Un.upd, hx'.1] using (h.out x hx'.2).2⟩
end
/-- Nodes that are being made. -/
structure Ns where
  ds : List Nat
  str : Str
  vr : Nat → Nat
  ly : Nat → Option Addr × Nat
  ty : Nat → Ty
  vl : List Nat
def Ns.Le (G G' : Ns) : Prop := ∀ m ∈ G.ds, m ∈ G'.ds ∧ G'.ty m = G.ty m
theorem Ns.Le.refl (G : Ns) : G.Le G := fun _ h => ⟨h, rfl⟩
theorem Ns.Le.trans {A B C : Ns} (h : A.Le B) (k : B.Le C) : A.Le C := fun m hm => ⟨(k m (h m hm).1).1, (k m (h m hm).1).2.trans (h m hm).2⟩
/-- What is new: new blocks. -/
def Ns.New (b : Nat) (G G' : Ns) : Prop := ∀ m ∈ G'.ds, (m ∈ G.ds ∧ G'.ly m = G.ly m ∧ G'.str m = G.str m) ∨ (b ≤ m ∧ ∀ g, (G'.ly m).1 = some ⟨g, 0, none⟩ → b ≤ g)
theorem Ns.New.refl (b : Nat) (G : Ns) : Ns.New b G G := fun m hm => Or.inl ⟨hm, rfl, rfl⟩
theorem Ns.New.trans {b b' : Nat} {A B C : Ns} (h : Ns.New b A B) (k : Ns.New b' B C) (hb : b ≤ b') : Ns.New b A C := fun m hm => by
  rcases k m hm with ⟨k1, k2, k3⟩ | ⟨k1, k2⟩
  · rcases h m k1 with ⟨h1, h2, h3⟩ | ⟨h1, h2⟩
    · exact Or.inl ⟨h1, k2.trans h2, k3.trans h3⟩
    · exact Or.inr ⟨h1, fun g e => h2 g (by rw [← k2]; exact e)⟩
  · exact Or.inr ⟨by omega, fun g e => by have := k2 g e; omega⟩
theorem Ns.New.less {b b' : Nat} {A B : Ns} (h : Ns.New b A B) (hb : b' ≤ b) : Ns.New b' A B := fun m hm => (h m hm).imp id fun q => ⟨by omega, fun g e => by have := q.2 g e; omega⟩
/-- The closure of variables' nodes, and all nodes that were made so far. -/
structure VN (w : World) (kb mb : Nat) (G : Ns) : Prop where
  bk : Bx w kb #[.map (some mb)]
  mp : MS (fun n : Int => Value.int .i64 n) w mb (vlL G.vr G.vl)
  gn : GN w G.ds G.str (fun _ => none) G.vr G.ly
  of : Un.Of G.str G.vr (fun n => n ∈ G.ds) G.ty
  vs : ∀ n, n ∈ G.vl ↔ n ∈ G.ds ∧ G.str n = none
  kd : ¬ kb ∈ G.ds
  wf : ∀ n ∈ G.ds, Wf (G.ty n)
theorem MS.nocell {κ : Type} [DecidableEq κ] {enc : κ → Value} {w : World} {b : Nat} {L : List (κ × Value)} (h : MS enc w b L) (i : Nat) : w.cell? ⟨b, i, none⟩ = none := by
  obtain ⟨es, c, hb, _⟩ := h
  simp [World.cell?, hb]
def IsM (mb : Nat) (b : Nat) : Prop := b = mb
theorem cell_lt {w : World} {b i : Nat} {v : Value} (h : w.cell? ⟨b, i, none⟩ = some v) : b < w.heap.size := by
  by_cases e : b < w.heap.size
  · exact e
  · have : w.heap[b]? = none := Array.getElem?_eq_none (by omega)
    simp [World.cell?, this] at h
theorem VN.keep {w w' : World} {kb mb : Nat} {G : Ns} (h : VN w kb mb G) (hf : Fr (IsM mb) w w') : ∀ b i v, w.cell? ⟨b, i, none⟩ = some v → w'.heap[b]? = w.heap[b]? := by
  intro b i v hc
  refine hf.block b (cell_lt hc) (fun e => ?_)
  have e : b = mb := e
  subst e
  rw [h.mp.nocell i] at hc
  cases hc
/-- All stays where but new blocks are written. -/
theorem VN.fr {S : Nat → Prop} {w w' : World} {kb mb : Nat} {G : Ns} (h : VN w kb mb G) (hf : Fr S w w') (hS : ∀ b, S b → w.heap.size ≤ b) : VN w' kb mb G := by
  have hb : ∀ b, b < w.heap.size → w'.heap[b]? = w.heap[b]? := fun b hz => hf.block b hz (fun q => by have := hS b q; omega)
  exact ⟨h.bk.same hf.size (hb kb h.bk.z), h.mp.same (hb mb h.mp.lt), h.gn.move hf.size (fun b i v hc => hb b (cell_lt hc)), h.of, h.vs, h.kd, h.wf⟩
theorem VN.one {w w' : World} {kb mb b : Nat} {G : Ns} (h : VN w kb mb G) (o : One b w w') (h1 : ¬ b ∈ G.ds) (h2 : kb ≠ b) (h3 : mb ≠ b) (h4 : ∀ m ∈ G.ds, ∀ c l g, G.str m = some (c, l) → l ≠ [] → (G.ly m).1 = some ⟨g, 0, none⟩ → g ≠ b) : VN w' kb mb G := by
  refine ⟨h.bk.one o h2, h.mp.one o h3, ⟨fun n hn => ?_, h.gn.out, h.gn.hd⟩, h.of, h.vs, h.kd, h.wf⟩
  obtain ⟨p1, p2, p3⟩ := h.gn.nd n hn
  have hne : n ≠ b := fun e => h1 (e ▸ hn)
  refine ⟨(o.block n hne).trans p1, ?_, p3⟩
  have h5 := h4 n hn
  cases hs : G.str n with
  | none => trivial
  | some p =>
    obtain ⟨c, l⟩ := p
    rw [hs] at p2
    obtain ⟨q1, q2, q3, q4⟩ := p2
    refine ⟨q1, q2, q3, ?_⟩
    by_cases e : l = []
    · exact Or.inl e
    · obtain ⟨g, r1, r2, r3, r4⟩ := q4.resolve_left e
      have hg := h5 c l g hs e r1
      refine Or.inr ⟨g, r1, r2, by rw [o.size]; exact r3, fun i hi => ?_⟩
      rw [World.cell?_of_block (a := ⟨g, i, none⟩) (w := w) (o.block g hg)]
      exact r4 i hi
/-- Rows that were there. -/
theorem VN.row {w : World} {kb mb : Nat} {G : Ns} (h : VN w kb mb G) {m : Nat} (hm : m ∈ G.ds) {c : ByteArray} {l : List Nat} {g : Nat} (hs : G.str m = some (c, l)) (hl : l ≠ []) (hg : (G.ly m).1 = some ⟨g, 0, none⟩) : g < w.heap.size := by
  obtain ⟨_, p2, _⟩ := h.gn.nd m hm
  rw [hs] at p2
  obtain ⟨g', r1, _, r3, _⟩ := p2.2.2.2.resolve_left hl
  rw [hg] at r1
  injection r1 with r1
  injection r1 with r1
  subst r1
  exact r3
theorem Of.addVar {str : Str} {vr : Nat → Nat} {ds : List Nat} {ty : Nat → Ty} (h : Un.Of str vr (fun n => n ∈ ds) ty) {n v : Nat} (hn : ¬ n ∈ ds) (hv : ∀ m ∈ ds, str m = none → vr m ≠ v) : Un.Of (Un.upd str n none) (Un.upd vr n v) (fun x => x ∈ n :: ds) (Un.upd ty n (.var v)) := by
  refine ⟨fun x hx e => ?_, fun x c l e => ?_, fun x y hx hy e1 e2 e3 => ?_⟩
  · by_cases q : x = n
    · subst q; simp [Un.upd]
    · simp only [Un.upd, q, if_false] at e ⊢
      exact h.var x ((List.mem_cons.1 hx).resolve_left q) e
  · by_cases q : x = n
    · subst q; simp [Un.upd] at e
    · simp only [Un.upd, q, if_false] at e ⊢
      obtain ⟨a, b, d⟩ := h.con x c l e
      refine ⟨List.mem_cons_of_mem _ a, ?_, fun y hy => List.mem_cons_of_mem _ (d y hy)⟩
      rw [b]
      congr 1
      apply List.map_congr_left
      intro y hy
      have : y ≠ n := fun q => hn (q ▸ d y hy)
      simp [Un.upd, this]
  · by_cases q : x = n <;> by_cases r : y = n
    · rw [q, r]
    · subst q
      simp only [Un.upd, r, if_true, if_false] at e2 e3
      exact absurd e3.symm (hv y ((List.mem_cons.1 hy).resolve_left r) e2)
    · subst r
      simp only [Un.upd, q, if_true, if_false] at e1 e3
      exact absurd e3 (hv x ((List.mem_cons.1 hx).resolve_left q) e1)
    · simp only [Un.upd, q, r, if_false] at e1 e2 e3
      exact h.one x y ((List.mem_cons.1 hx).resolve_left q) ((List.mem_cons.1 hy).resolve_left r) e1 e2 e3
theorem Of.addCon {str : Str} {vr : Nat → Nat} {ds : List Nat} {ty : Nat → Ty} (h : Un.Of str vr (fun n => n ∈ ds) ty) {n : Nat} (hn : ¬ n ∈ ds) (c : ByteArray) (l : List Nat) (hl : ∀ m ∈ l, m ∈ ds) (v : Nat) : Un.Of (Un.upd str n (some (c, l))) (Un.upd vr n v) (fun x => x ∈ n :: ds) (Un.upd ty n (.con c (l.map ty))) := by
  have hmap : ∀ l : List Nat, (∀ m ∈ l, m ∈ ds) → l.map (Un.upd ty n (.con c (l.map ty))) = l.map ty := by
    intro l hl
    apply List.map_congr_left
    intro y hy
    have : y ≠ n := fun q => hn (q ▸ hl y hy)
    simp [Un.upd, this]
  have hmap' : ∀ (T : Ty) (l : List Nat), (∀ m ∈ l, m ∈ ds) → l.map (Un.upd ty n T) = l.map ty := by
    intro T l hl
    apply List.map_congr_left
    intro y hy
    have : y ≠ n := fun q => hn (q ▸ hl y hy)
    simp [Un.upd, this]
  refine ⟨fun x hx e => ?_, fun x c' l' e => ?_, fun x y hx hy e1 e2 e3 => ?_⟩
  · by_cases q : x = n
    · subst q; simp [Un.upd] at e
    · simp only [Un.upd, q, if_false] at e ⊢
      exact h.var x ((List.mem_cons.1 hx).resolve_left q) e
  · by_cases q : x = n
    · subst q
      simp [Un.upd] at e
      obtain ⟨rfl, rfl⟩ := e
      refine ⟨by simp, ?_, fun y hy => List.mem_cons_of_mem _ (hl y hy)⟩
      rw [hmap' _ _ hl]
      simp [Un.upd]
    · have e' : str x = some (c', l') := by simpa [Un.upd, q] using e
      obtain ⟨a, b, d⟩ := h.con x c' l' e'
      refine ⟨List.mem_cons_of_mem _ a, ?_, fun y hy => List.mem_cons_of_mem _ (d y hy)⟩
      rw [hmap' _ _ d, ← b]
      simp [Un.upd, q]
  · have q : x ≠ n := fun q => by subst q; simp [Un.upd] at e1
    have r : y ≠ n := fun q => by subst q; simp [Un.upd] at e2
    simp only [Un.upd, q, r, if_false] at e1 e2 e3
    exact h.one x y ((List.mem_cons.1 hx).resolve_left q) ((List.mem_cons.1 hy).resolve_left r) e1 e2 e3
end Go.Proofs.YtklidhjlfappnaaGreatDoor
namespace Go.Proofs.YtklidhjlfappnaaGreatDoor
open Go Go.RowKit Go.ChangeMaps Un
section
variable {w : World} {kb mb : Nat} {G : Ns}
theorem zeroNode (w : World) : (zeroValue 106).run Tryz.prog w = .ok (.pointer none) w := by kernel_rfl
def VarPost (kb mb : Nat) (G : Ns) (T : Ty) (w : World) (e : Ending) (w' : World) : Prop :=
  ∃ n G', e = .returned (nA n) ∧ VN w' kb mb G' ∧ G.Le G' ∧ n ∈ G'.ds ∧ G'.ty n = T ∧ Fr (IsM mb) w w' ∧ Ns.New w.heap.size G G'
set_option maxRecDepth 100000 in
set_option maxHeartbeats 1000000 in
theorem varOf_C (h : VN w kb mb G) (v : Nat) : Calls Tryz.prog 87 #[.int .i64 (v : Int), .pointer (some ⟨kb, 0, none⟩)] w (VarPost kb mb G (.var v) w) := by
  have hl := h.mp.look (KL.num Tryz.underlying96) Tryz.underlying220 (zeroNode w) (v : Int) trivial (fun _ _ => trivial) true
  obtain ⟨c, f, z⟩ := h.bk
  have hnot : ∀ (x : Bool) (w : World), (Op.unary .not (.bool x)).run Tryz.prog w = .ok (.bool (!x)) w := fun _ _ => rfl
  have hcc : w.cell? ⟨kb, 0, none⟩ = some (.map (some mb)) := c 0
  by_cases hm : ∃ n, n ∈ G.vl ∧ G.vr n = v
  · obtain ⟨n, hn, rfl⟩ := hm
    obtain ⟨n1, n2⟩ := (h.vs n).1 hn
    rw [got_vl_in hn (fun m hm e => h.of.one m n ((h.vs m).1 hm).1 n1 ((h.vs m).1 hm).2 n2 e)] at hl
    simp at hl
    have H := hide h
    clear h
    go_enter Tryz.func87, Tryz.ntmps87
    go_wp2_with fail
    go_ret
    exact ⟨n, G, rfl, unhide H, Ns.Le.refl _, n1, (unhide H).of.var n n1 n2, Fr.refl _ _, Ns.New.refl _ _⟩
  · have hv : ∀ m ∈ G.vl, G.vr m ≠ v := fun m h1 h2 => hm ⟨m, h1, h2⟩
    have hg := got_vl hv
    rw [hg] at hl
    simp at hl
    have HM := hide (h.mp.below ((Below.refl _ _).alloc (Nat.le_refl _) (.cells #[.pointer none, .int .i64 (v : Int), .string ⟨#[]⟩, .slice none 0 0] 224)))
    have BK := h.bk.alloc (.cells #[.pointer none, .int .i64 (v : Int), .string ⟨#[]⟩, .slice none 0 0] 224)
    obtain ⟨c1, f1, z1⟩ := BK
    have hcc1 : (w.alloc (.cells #[.pointer none, .int .i64 (v : Int), .string ⟨#[]⟩, .slice none 0 0] 224)).cell? ⟨kb, 0, none⟩ = some (.map (some mb)) := c1 0
    have H := hide h
    clear h c1 f1 z1
    go_enter Tryz.func87, Tryz.ntmps87
    go_wp2_with (refine wpList_put _ rfl _ _ _ _ (Or.inr rfl) (KL.num Tryz.underlying96) Tryz.underlying220 _ _ rfl (unhide HM) (v : Int) (nA w.heap.size) rfl rfl trivial (fun _ _ => trivial) ?_; intro w' H' O'; have HM2 := hide H'; have O2 := hide O'; clear H' O')
    go_ret
    have O := unhide O2
    have h := unhide H
    have zm := h.mp.lt
    have hz : ¬ w.heap.size ∈ G.ds := fun q => by have := (h.gn.nd _ q).lt; omega
    have hzl : ¬ w.heap.size ∈ G.vl := fun q => hz ((h.vs _).1 q).1
    have hsz : w'.heap.size = w.heap.size + 1 := O.size.trans (Array.size_push ..)
    have F1 : Fr (IsM mb) w w' := by
      have f1 : Fr (IsM mb) w (w.alloc (.cells #[.pointer none, .int .i64 (v : Int), .string ⟨#[]⟩, .slice none 0 0] 224)) := Fr.of ((Below.refl _ _).alloc (Nat.le_refl _) _)
      exact ⟨O.os.trans f1.os, O.tape.trans f1.tape, O.output.trans f1.output, by omega, fun k hk hn => (O.block k (fun e => hn e)).trans (f1.block k hk hn)⟩
    have hnode : w'.heap[w.heap.size]? = some (.cells #[.pointer none, .int .i64 (v : Int), .string ⟨#[]⟩, .slice none 0 0] 224 (0, 0)) := by
      rw [O.block _ (by omega)]
      exact (MapKept.heap_alloc w _).1
    have kz : kb ≠ mb := fun e => by subst e; have := h.mp.nocell 0; rw [hcc] at this; cases this
    refine ⟨w.heap.size, ⟨w.heap.size :: G.ds, Un.upd G.str w.heap.size none, Un.upd G.vr w.heap.size v, Un.upd G.ly w.heap.size (none, 0), Un.upd G.ty w.heap.size (.var v), G.vl ++ [w.heap.size]⟩, rfl, ⟨?_, ?_, ?_, ?_, ?_, ?_, ?_⟩, ?_, by simp, by simp [Un.upd], F1, fun m hm => ?_⟩
    · exact h.bk.fr F1 (fun e => kz e)
    · have := unhide HM2
      rw [putL_new _ _ _ hg] at this
      have e1 : vlL (Un.upd G.vr w.heap.size v) (G.vl ++ [w.heap.size]) = vlL G.vr G.vl ++ [((v : Int), nA w.heap.size)] := by
        rw [← vlL_upd (v := v) hzl]
        simp [vlL, Un.upd]
      show MS _ w' mb (vlL (Un.upd G.vr w.heap.size v) (G.vl ++ [w.heap.size]))
      rw [e1]
      exact this
    · exact h.gn.add F1.size (h.keep F1) (Nat.le_refl _) none v (none, 0) hnode trivial
    · refine Of.addVar h.of hz (fun m hm e => hv m ((h.vs m).2 ⟨hm, e⟩))
    · intro x
      show x ∈ G.vl ++ [w.heap.size] ↔ x ∈ w.heap.size :: G.ds ∧ Un.upd G.str w.heap.size none x = none
      by_cases e : x = w.heap.size
      · simp [e, Un.upd]
      · simp [e, Un.upd, h.vs x]
    · show ¬ kb ∈ w.heap.size :: G.ds
      intro q
      rcases List.mem_cons.1 q with q | q
      · omega
      · exact h.kd q
    · intro x hx
      by_cases e : x = w.heap.size
      · subst e; simp [Un.upd, Wf]
      · simp only [Un.upd, e, if_false]
        exact h.wf x ((List.mem_cons.1 hx).resolve_left e)
    · intro m hm
      have : m ≠ w.heap.size := fun e => hz (e ▸ hm)
      exact ⟨List.mem_cons_of_mem _ hm, by simp [Un.upd, this]⟩
    · by_cases e : m = w.heap.size
      · subst e
        exact Or.inr ⟨Nat.le_refl _, fun g q => by simp [Un.upd] at q⟩
      · have hm' : m ∈ G.ds := (List.mem_cons.1 hm).resolve_left e
        exact Or.inl ⟨hm', by simp [Un.upd, e], by simp [Un.upd, e]⟩
end
end Go.Proofs.YtklidhjlfappnaaGreatDoor
