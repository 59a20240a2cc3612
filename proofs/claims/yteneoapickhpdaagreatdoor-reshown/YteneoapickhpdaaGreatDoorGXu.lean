import Derived.Test.YteneoapickhpdaaGreatDoorGXo
set_option linter.unusedSimpArgs false
set_option linter.unusedVariables false
set_option linter.unusedSectionVars false
namespace Go.Proofs.YteneoapickhpdaaGreatDoor
open Go Go.RowKit Go.ChangeMaps
theorem bnd_assoc {α β γ : Type} (m : M α) (f : α → M β) (g : β → M γ) : bnd (bnd m f) g = bnd m fun a => bnd (f a) g := by
  funext k
  unfold bnd
  cases m k <;> rfl
/-- An arm. -/
def armM (T : List Pu.Tok) (pat expr : M Nd) : M (Nd × Nd) := bnd pat fun p => bnd (wantM T kArrow) fun _ => bnd expr fun e k => .ok ((p, e), k)
def ArmR (w : World) (P : Nat → Prop) (a : Nd × Nd) (v : Value) : Prop := ∃ (u1 u2 : Int) (vp ve : Value), v = .agg #[.int .i64 u1, .int .i64 u2, vp, ve] ∧ PP w P a.1 vp ∧ PE w P a.2 ve
section
theorem Bx.set4' {w : World} {b : Nat} {C : Array Value} (h : Bx w b C) (hC : C.size = 4) (v0 v1 v2 v3 : Value) : Bx ((((w.setCell ⟨b, 0, none⟩ v0).setCell ⟨b, 1, none⟩ v1).setCell ⟨b, 2, none⟩ v2).setCell ⟨b, 3, none⟩ v3) b #[v0, v1, v2, v3] := by
  obtain ⟨a0, a1, a2, a3, rfl⟩ : ∃ a0 a1 a2 a3, C = #[a0, a1, a2, a3] := by
    obtain ⟨l⟩ := C
    match l, hC with
    | [a, b, c, d], _ => exact ⟨a, b, c, d, rfl⟩
  exact (((h.setS' 0 v0 #[v0, a1, a2, a3] rfl (by simp)).setS' 1 v1 #[v0, v1, a2, a3] rfl (by simp)).setS' 2 v2 #[v0, v1, v2, a3] rfl (by simp)).setS' 3 v3 #[v0, v1, v2, v3] rfl (by simp)
variable {w : World} {N rb sb : Nat} {m : MV} {s : ByteArray} {k n : Nat}
theorem bind_lts {T : List Pu.Tok} {e : M Nd} (hm : Lts e) : Lts (bindM T e) := fun k a k' h => by
  unfold bindM at h
  split at h
  · obtain ⟨_, k2, h3, h4⟩ := bnd_inv h
    obtain ⟨_, k3, h5, h6⟩ := bnd_inv h4
    obtain ⟨_, k4, h7, h8⟩ := bnd_inv h6
    cases h8
    have := name_mono _ _ _ _ h3
    have := want_mono _ _ _ _ h5
    have := fun_lts hm _ _ _ h7
    omega
  · obtain ⟨_, k2, h3, h4⟩ := bnd_inv h
    obtain ⟨_, k3, h5, h6⟩ := bnd_inv h4
    obtain ⟨_, k4, h7, h8⟩ := bnd_inv h6
    cases h8
    have := name_mono _ _ _ _ h3
    have := want_mono _ _ _ _ h5
    have := hm _ _ _ h7
    omega
set_option maxRecDepth 100000 in
set_option maxHeartbeats 2000000 in
theorem letIn_X (hs : s.size ≤ 1000) (IH : ExprC s n) (h : SX w N rb sb m s k) (hn : (Pu.toks s 0).length ≤ k + 1 + n) :
    Calls Tryz.prog 93 #[rp rb] w (RuleX PE N rb sb m s (letM (Pu.toks s 0) (exprM (Pu.toks s 0) n) k) w) := by
  have hf1 := tok178
  have hf2 := spn175
  have hnot : ∀ (x : Bool) (w : World), (Op.unary .not (.bool x)).run Tryz.prog w = .ok (.bool (!x)) w := fun _ _ => rfl
  have HE0 : letM (Pu.toks s 0) (exprM (Pu.toks s 0) n) k = bnd (wantM (Pu.toks s 0) kLet) (fun _ => bnd (bindM (Pu.toks s 0) (exprM (Pu.toks s 0) n)) (fun b => bnd (wantM (Pu.toks s 0) kIn) (fun _ => bnd (exprM (Pu.toks s 0) n) (fun f => fun k' => .ok (Nd.mk b.1 b.2.1.text 0 [b.2.2, f] (tk (Pu.toks s 0) k).frm (lastK (Pu.toks s 0) k') b.2.1.frm, k'))))) k := by unfold letM; rw [bound_bind, bnd_assoc]
  have hz := h.z
  have S1 := hide h
  have K2 := hide (Ke.refl rb w)
  have E3 := hide HE0
  clear h HE0
  go_enter Tryz.func93, Tryz.ntmps93
  go_wp2_with fail
  refine (take_X (unhide S1) hs kLet (by decide)).mono ?_
  intro e w1 hp
  cases hA : fin (Pu.toks s 0) (wantM (Pu.toks s 0) kLet k) with
  | error f' =>
    obtain ⟨rfl, hb⟩ := hp.bad hA
    exact ⟨rfl, RuleX.stop (unhide E3) hA (fun a => stall_bnd (stall_bind _) fun _ => stall_bnd (stall_want _ _) fun _ => stall_bnd (stall_expr _) fun _ => stall_ok _) ((unhide K2).trans hb)⟩
  | ok r' =>
  obtain ⟨_uw1, k1⟩ := r'
  obtain ⟨vw1, rfl, hb, hS, hR⟩ := hp.ok hA
  have S4 := hide hS
  have K5 := hide ((unhide K2).trans hb)
  have E6 := hide ((unhide E3).trans (fin_bnd_ok hA))
  have qw1 := (fin_ok hA).1
  have zw1 := hb.size
  try simp at zw1
  cases hR
  clear hp hb hS hA S1 K2 E3
  have ew1 := want_mono _ _ _ _ qw1
  go_wp2_with fail
  refine (binding_X hs IH (unhide S4) (by omega)).mono ?_
  intro e w2 hp
  cases hA : fin (Pu.toks s 0) (bindM (Pu.toks s 0) (exprM (Pu.toks s 0) n) k1) with
  | error f' =>
    obtain ⟨rfl, hb⟩ := hp.bad hA
    exact ⟨rfl, RuleX.stop (unhide E6) hA (fun a => stall_bnd (stall_want _ _) fun _ => stall_bnd (stall_expr _) fun _ => stall_ok _) ((unhide K5).trans hb)⟩
  | ok r' =>
  obtain ⟨b, k2⟩ := r'
  obtain ⟨v2, rfl, hb, hS, hR⟩ := hp.ok hA
  have S7 := hide hS
  have K8 := hide ((unhide K5).trans hb)
  have E9 := hide ((unhide E6).trans (fin_bnd_ok hA))
  have qw2 := (fin_ok hA).1
  have zw2 := hb.size
  try simp at zw2
  obtain ⟨ve, rfl, hV, hc1, hl1, hs1⟩ := hR
  have VB := hide hV
  obtain ⟨te, xe, rfl⟩ := hV.iface
  have HC1 := hide hc1
  have HL1 := hide (And.intro hl1 hs1)
  clear hV hc1 hl1 hs1
  clear hp hb hS hA S4 K5 E6
  have ew2 : k1 < k2 := bind_lts (expr_lts n) _ _ _ qw2
  go_wp2_with fail
  have S10 := hide ((unhide S7).bel ((Below.refl _ _).alloc (Nat.le_refl _) (.cells #[.bool (b.1 == 11), .int .i64 (b.2.1.frm : Int), .int .i64 (b.2.1.to : Int), .string b.2.1.text, .iface te (.agg xe)] 129)))
  have K11 := hide ((unhide K8).below' ((Below.refl _ _).alloc (Nat.le_refl _) (.cells #[.bool (b.1 == 11), .int .i64 (b.2.1.frm : Int), .int .i64 (b.2.1.to : Int), .string b.2.1.text, .iface te (.agg xe)] 129)))
  clear S7 K8
  have B12 := hide (Bx.at w2 #[.bool (b.1 == 11), .int .i64 (b.2.1.frm : Int), .int .i64 (b.2.1.to : Int), .string b.2.1.text, .iface te (.agg xe)] 129 (w2.heap.size) (by simp))
  have V13 := hide ((unhide VB).bel ((Below.refl _ _).alloc (Nat.le_refl _) (.cells #[.bool (b.1 == 11), .int .i64 (b.2.1.frm : Int), .int .i64 (b.2.1.to : Int), .string b.2.1.text, .iface te (.agg xe)] 129)))
  clear VB
  refine (take_X (unhide S10) hs kIn (by decide)).mono ?_
  intro e w3 hp
  cases hA : fin (Pu.toks s 0) (wantM (Pu.toks s 0) kIn k2) with
  | error f' =>
    obtain ⟨rfl, hb⟩ := hp.bad hA
    exact ⟨rfl, RuleX.stop (unhide E9) hA (fun a => stall_bnd (stall_expr _) fun _ => stall_ok _) ((unhide K11).trans hb)⟩
  | ok r' =>
  obtain ⟨_uw3, k3⟩ := r'
  obtain ⟨vw3, rfl, hb, hS, hR⟩ := hp.ok hA
  have S14 := hide hS
  have K15 := hide ((unhide K11).trans hb)
  have E16 := hide ((unhide E9).trans (fin_bnd_ok hA))
  have qw3 := (fin_ok hA).1
  have zw3 := hb.size
  try simp at zw3
  have B17 := hide ((unhide B12).ke' hb (by omega))
  clear B12
  have V18 := hide ((unhide V13).ke hb (fun b p => by show b ≠ rb; have p' : w1.heap.size ≤ b := p; omega))
  clear V13
  cases hR
  clear hp hb hS hA S10 K11 E9
  have ew3 := want_mono _ _ _ _ qw3
  go_wp2_with fail
  refine (IH _ _ _ _ _ _ (unhide S14) (by omega)).mono ?_
  intro e w4 hp
  cases hA : fin (Pu.toks s 0) (exprM (Pu.toks s 0) n k3) with
  | error f' =>
    obtain ⟨rfl, hb⟩ := hp.bad hA
    exact ⟨rfl, RuleX.stop (unhide E16) hA (fun a => stall_ok _) ((unhide K15).trans hb)⟩
  | ok r' =>
  obtain ⟨c, k4⟩ := r'
  obtain ⟨v4, rfl, hb, hS, hR⟩ := hp.ok hA
  have S19 := hide hS
  have K20 := hide ((unhide K15).trans hb)
  have E21 := hide ((unhide E16).trans (fin_bnd_ok hA))
  have qw4 := (fin_ok hA).1
  have zw4 := hb.size
  try simp at zw4
  have B22 := hide ((unhide B17).ke' hb (by omega))
  clear B17
  have V23 := hide ((unhide V18).ke hb (fun b p => by show b ≠ rb; have p' : w1.heap.size ≤ b := p; omega))
  clear V18
  have V24 := hide hR
  obtain ⟨tv4, xv4, rfl⟩ := hR.iface
  clear hp hb hS hA S14 K15 E16 hR
  have ew4 := expr_lts n _ _ _ qw4
  go_wp2_with fail
  obtain ⟨c25, f26, z27⟩ := unhide B22
  go_wp2_with fail
  go_region_with (go_at_call 88; refine (since_X ((unhide S19).bel (Below.refl _ _).drew) _).mono ?_; rintro e w5 ⟨rfl, hb⟩; have S28 := hide (((unhide S19).bel (Below.refl _ _).drew).bel hb); have K29 := hide (((unhide K20).below' (Below.refl _ _).drew).below' hb); have V30 := hide (((unhide V23).bel (Below.refl _ _).drew).bel hb); have V31 := hide (((unhide V24).bel (Below.refl _ _).drew).bel hb); have B32 := hide ((unhide B22).drew'.below hb); obtain ⟨c33, fc33, zc33⟩ := unhide B32; clear hb)
  all_goals (
    go_wp2_with fail
    go_ret
    exact RuleX.done (unhide E21) (unhide K29) (unhide S28) (.lt _ _ _ _ _ _ _ _ _ _ _ (unhide HC1) (unhide HL1).1 (unhide HL1).2 ((unhide V30).wide fun b p => by have p' : w1.heap.size ≤ b := p; show w.heap.size ≤ b; omega) ((unhide V31).wide fun b p => by have p' : w3.heap.size ≤ b := p; show w.heap.size ≤ b; omega)))
set_option maxRecDepth 100000 in
set_option maxHeartbeats 2000000 in
theorem arm_X (hs : s.size ≤ 1000) (IHP : PatC s n) (IH : ExprC s n) (h : SX w N rb sb m s k) (hn : (Pu.toks s 0).length ≤ k + n) :
    Calls Tryz.prog 148 #[rp rb] w (RuleX ArmR N rb sb m s (armM (Pu.toks s 0) (patM (Pu.toks s 0) n) (exprM (Pu.toks s 0) n) k) w) := by
  have hf1 := tok178
  have hf2 := spn175
  have hnot : ∀ (x : Bool) (w : World), (Op.unary .not (.bool x)).run Tryz.prog w = .ok (.bool (!x)) w := fun _ _ => rfl
  have hNw := h.ev.hN
  obtain ⟨c0, f0, z0⟩ := h.bx
  have hz := h.z
  have S1 := hide h
  have K2 := hide (Ke.refl rb w)
  have E3 : Hid (armM (Pu.toks s 0) (patM (Pu.toks s 0) n) (exprM (Pu.toks s 0) n) k = bnd (patM (Pu.toks s 0) n) (fun p => bnd (wantM (Pu.toks s 0) kArrow) (fun _ => bnd (exprM (Pu.toks s 0) n) (fun e => fun k => .ok ((p, e), k)))) k) := hide rfl
  clear h
  go_enter Tryz.func148, Tryz.ntmps148
  go_wp2_with fail
  clear c0 f0 z0
  have S4 := hide ((unhide S1).bel ((Below.refl _ _).alloc (Nat.le_refl _) (.cells #[.int .i64 0, .int .i64 0, .nilIface, .nilIface] 236)))
  have K5 := hide ((unhide K2).below' ((Below.refl _ _).alloc (Nat.le_refl _) (.cells #[.int .i64 0, .int .i64 0, .nilIface, .nilIface] 236)))
  clear S1 K2
  have B6 := hide (Bx.at w #[.int .i64 0, .int .i64 0, .nilIface, .nilIface] 236 (w.heap.size) (by simp))
  refine (IHP _ _ _ _ _ _ (unhide S4) (by omega)).mono ?_
  intro e w1 hp
  cases hA : fin (Pu.toks s 0) (patM (Pu.toks s 0) n k) with
  | error f' =>
    obtain ⟨rfl, hb⟩ := hp.bad hA
    exact ⟨rfl, RuleX.stop (unhide E3) hA (fun a => stall_bnd (stall_want _ _) fun _ => stall_bnd (stall_expr _) fun _ => stall_ok _) ((unhide K5).trans hb)⟩
  | ok r' =>
  obtain ⟨a, k1⟩ := r'
  obtain ⟨v1, rfl, hb, hS, hR⟩ := hp.ok hA
  have S7 := hide hS
  have K8 := hide ((unhide K5).trans hb)
  have E9 := hide ((unhide E3).trans (fin_bnd_ok hA))
  have qw1 := (fin_ok hA).1
  have zw1 := hb.size
  try simp at zw1
  have B10 := hide ((unhide B6).ke' hb (by omega))
  clear B6
  have V11 := hide (hR.wide (Q := fun b => w.heap.size + 1 ≤ b) fun b p => by simpa using p)
  obtain ⟨tv1, xv1, rfl⟩ := hR.iface
  clear hp hb hS hA S4 K5 E3 hR
  have ew1 := pat_mono n _ _ _ qw1
  go_wp2_with fail
  refine (take_X (unhide S7) hs kArrow (by decide)).mono ?_
  intro e w2 hp
  cases hA : fin (Pu.toks s 0) (wantM (Pu.toks s 0) kArrow k1) with
  | error f' =>
    obtain ⟨rfl, hb⟩ := hp.bad hA
    exact ⟨rfl, RuleX.stop (unhide E9) hA (fun a => stall_bnd (stall_expr _) fun _ => stall_ok _) ((unhide K8).trans hb)⟩
  | ok r' =>
  obtain ⟨_uw2, k2⟩ := r'
  obtain ⟨vw2, rfl, hb, hS, hR⟩ := hp.ok hA
  have S12 := hide hS
  have K13 := hide ((unhide K8).trans hb)
  have E14 := hide ((unhide E9).trans (fin_bnd_ok hA))
  have qw2 := (fin_ok hA).1
  have zw2 := hb.size
  try simp at zw2
  have B15 := hide ((unhide B10).ke' hb (by omega))
  clear B10
  have V16 := hide ((unhide V11).ke hb (fun b p => by show b ≠ rb; have p' : w.heap.size + 1 ≤ b := p; omega))
  clear V11
  cases hR
  clear hp hb hS hA S7 K8 E9
  have ew2 := want_mono _ _ _ _ qw2
  go_wp2_with fail
  refine (IH _ _ _ _ _ _ (unhide S12) (by omega)).mono ?_
  intro e w3 hp
  cases hA : fin (Pu.toks s 0) (exprM (Pu.toks s 0) n k2) with
  | error f' =>
    obtain ⟨rfl, hb⟩ := hp.bad hA
    exact ⟨rfl, RuleX.stop (unhide E14) hA (fun a => stall_ok _) ((unhide K13).trans hb)⟩
  | ok r' =>
  obtain ⟨b, k3⟩ := r'
  obtain ⟨v3, rfl, hb, hS, hR⟩ := hp.ok hA
  have S17 := hide hS
  have K18 := hide ((unhide K13).trans hb)
  have E19 := hide ((unhide E14).trans (fin_bnd_ok hA))
  have qw3 := (fin_ok hA).1
  have zw3 := hb.size
  try simp at zw3
  have B20 := hide ((unhide B15).ke' hb (by omega))
  clear B15
  have V21 := hide ((unhide V16).ke hb (fun b p => by show b ≠ rb; have p' : w.heap.size + 1 ≤ b := p; omega))
  clear V16
  have V22 := hide hR
  obtain ⟨tv3, xv3, rfl⟩ := hR.iface
  clear hp hb hS hA S12 K13 E14 hR
  have ew3 := expr_lts n _ _ _ qw3
  go_wp2_with fail
  refine (since_X (unhide S17) _).mono ?_
  rintro e w4 ⟨rfl, hb⟩
  have S23 := hide ((unhide S17).bel hb)
  have K24 := hide ((unhide K18).below' hb)
  have zw4 := hb.size
  try simp at zw4
  have B25 := hide ((unhide B20).below hb)
  clear B20
  have V26 := hide ((unhide V21).bel hb)
  clear V21
  have V27 := hide ((unhide V22).bel hb)
  clear V22
  clear hb S17 K18
  obtain ⟨c28, f29, z30⟩ := unhide B25
  go_wp2_with fail
  obtain ⟨cF, fF, zF⟩ := (unhide B25).set4' rfl (.int .i64 ((tk (Pu.toks s 0) k).frm : Int)) (.int .i64 ((lastK (Pu.toks s 0) k3 : Nat) : Int)) (.iface tv1 (.agg xv1)) (.iface tv3 (.agg xv3))
  refine bodyPost_ret (v := .agg #[.int .i64 ((tk (Pu.toks s 0) k).frm : Int), .int .i64 ((lastK (Pu.toks s 0) k3 : Nat) : Int), .iface tv1 (.agg xv1), .iface tv3 (.agg xv3)]) (by simp [results, Tryz.results148, go_sem, cF]) rfl ?_
  exact RuleX.done (unhide E19) (((((unhide K24).setNew (b := w.heap.size) (Nat.le_refl _) 0 (.int .i64 ((tk (Pu.toks s 0) k).frm : Int))).setNew (b := w.heap.size) (Nat.le_refl _) 1 (.int .i64 ((lastK (Pu.toks s 0) k3 : Nat) : Int))).setNew (b := w.heap.size) (Nat.le_refl _) 2 (.iface tv1 (.agg xv1))).setNew (b := w.heap.size) (Nat.le_refl _) 3 (.iface tv3 (.agg xv3))) (((((unhide S23).set (b := w.heap.size) hNw 0 (.int .i64 ((tk (Pu.toks s 0) k).frm : Int))).set (b := w.heap.size) hNw 1 (.int .i64 ((lastK (Pu.toks s 0) k3 : Nat) : Int))).set (b := w.heap.size) hNw 2 (.iface tv1 (.agg xv1))).set (b := w.heap.size) hNw 3 (.iface tv3 (.agg xv3))) ⟨_, _, _, _, rfl, (((((unhide V26).setC (b := w.heap.size) (fun c p => by have p' : w.heap.size + 1 ≤ c := p; omega) 0 (.int .i64 ((tk (Pu.toks s 0) k).frm : Int))).setC (b := w.heap.size) (fun c p => by have p' : w.heap.size + 1 ≤ c := p; omega) 1 (.int .i64 ((lastK (Pu.toks s 0) k3 : Nat) : Int))).setC (b := w.heap.size) (fun c p => by have p' : w.heap.size + 1 ≤ c := p; omega) 2 (.iface tv1 (.agg xv1))).setC (b := w.heap.size) (fun c p => by have p' : w.heap.size + 1 ≤ c := p; omega) 3 (.iface tv3 (.agg xv3))).wide (fun b p => by have p' : w.heap.size + 1 ≤ b := p; show w.heap.size ≤ b; omega), (((((unhide V27).setC (b := w.heap.size) (fun c p => by have p' : w2.heap.size ≤ c := p; omega) 0 (.int .i64 ((tk (Pu.toks s 0) k).frm : Int))).setC (b := w.heap.size) (fun c p => by have p' : w2.heap.size ≤ c := p; omega) 1 (.int .i64 ((lastK (Pu.toks s 0) k3 : Nat) : Int))).setC (b := w.heap.size) (fun c p => by have p' : w2.heap.size ≤ c := p; omega) 2 (.iface tv1 (.agg xv1))).setC (b := w.heap.size) (fun c p => by have p' : w2.heap.size ≤ c := p; omega) 3 (.iface tv3 (.agg xv3))).wide (fun b p => by have p' : w2.heap.size ≤ b := p; show w.heap.size ≤ b; omega)⟩
end
end Go.Proofs.YteneoapickhpdaaGreatDoor
namespace Go.Proofs.YteneoapickhpdaaGreatDoor
open Go Go.RowKit Go.ChangeMaps
theorem armInfo : (Tryz.prog.info? 236).map (fun i => (i.zero, i.size, i.bytes)) = some (some (.agg #[.int .i64 0, .int .i64 0, .nilIface, .nilIface]), 4, 48) := by kernel_rfl
theorem armsUnder : Tryz.prog.underlying 233 = some (.slice 236) := by kernel_rfl
def restArms (T : List Pu.Tok) (pat expr : M Nd) (f : Nat) (l : List Nd) : M (List Nd) := fun k => if isT (tk T k) kBar = true then armsF T pat expr f l (k + 1) else .ok (l, k)
theorem arms_go (T : List Pu.Tok) (pat expr : M Nd) (f : Nat) (l : List Nd) (k : Nat) : armsF T pat expr (f + 1) l k = bnd (armM T pat expr) (fun a => restArms T pat expr f (l ++ [a.1, a.2])) k := by
  unfold armM
  rw [bnd_assoc]
  show bnd pat _ k = _
  congr 1
  funext p
  rw [bnd_assoc]
  congr 1
  funext _
  rw [bnd_assoc]
  rfl
theorem stall_arm {T : List Pu.Tok} {pat expr : M Nd} (hp : Stall T pat) (he : Stall T expr) : Stall T (armM T pat expr) := stall_bnd hp fun _ => stall_bnd (stall_want _ _) fun _ => stall_bnd he fun _ => stall_ok _
theorem stall_restArms (T : List Pu.Tok) (pat expr : M Nd) (f : Nat) (l : List Nd) : Stall T (restArms T pat expr f l) := fun k h => by unfold restArms; rw [isT_6 h]; exact fin_at _ h
theorem arm_lts {T : List Pu.Tok} {pat expr : M Nd} (hp : Mono pat) (he : Lts expr) : Lts (armM T pat expr) := fun k a k' h => by
  unfold armM at h
  obtain ⟨_, k1, h1, h2⟩ := bnd_inv h
  obtain ⟨_, k2, h3, h4⟩ := bnd_inv h2
  obtain ⟨_, k3, h5, h6⟩ := bnd_inv h4
  cases h6
  have := hp _ _ _ h1
  have := want_mono _ _ _ _ h3
  have := he _ _ _ h5
  omega
theorem armN_app (A : List (Nd × Nd)) (p : Nd × Nd) : armN (A ++ [p]) = armN A ++ [p.1, p.2] := by
  induction A with
  | nil => rfl
  | cons q l ih => show q.1 :: q.2 :: armN (l ++ [p]) = q.1 :: q.2 :: (armN l ++ _); rw [ih]
def QArm : EQ (Nd × Nd) := fun w P a c => (∃ u1 u2 : Int, c 0 = .int .i64 u1 ∧ c 1 = .int .i64 u2) ∧ PP w P a.1 (c 2) ∧ PE w P a.2 (c 3)
theorem moves_arm : Moves QArm := fun _ _ _ _ _ _ h h1 h2 h3 => ⟨h.1, h.2.1.move h1 h2 h3, h.2.2.move h1 h2 h3⟩
def ArmsR (x : Nd) (w : World) (P : Nat → Prop) (l : List Nd) (v : Value) : Prop := ∃ A, A ≠ [] ∧ l = x :: armN A ∧ RowV QArm 4 w P A v
def ArmsRel (N rb sb : Nat) (m : MV) (s : ByteArray) (n k : Nat) (x : Nd) (w : World) (r : Except Fl (List Nd × Nat)) (gk : Nat) (v : Value) (wr : World) : Prop :=
  ∃ (kr : Nat) (A : List (Nd × Nd)) (f : Nat) (va : Option Addr) (vc : Nat), v = .slice va A.length vc ∧ A ≠ [] ∧ SX wr N rb sb m s kr ∧ Ke rb w wr ∧ Hid (gk = (Pu.toks s 0).length - kr) ∧ k < kr ∧ A.length ≤ kr ∧ RowO QArm 236 4 wr w.heap.size va vc A ∧ Hid (r = restArms (Pu.toks s 0) (patM (Pu.toks s 0) n) (exprM (Pu.toks s 0) n) f (x :: armN A) kr) ∧ (Pu.toks s 0).length ≤ kr + f
section
variable {w : World} {N rb sb : Nat} {m : MV} {s : ByteArray} {k n : Nat}
set_option maxRecDepth 100000 in
set_option maxHeartbeats 2000000 in
theorem barredArm_X (hs : s.size ≤ 1000) (hT : (Pu.toks s 0).length ≤ 1001) (IHP : PatC s n) (IH : ExprC s n) (h : SX w N rb sb m s k) (hn : (Pu.toks s 0).length ≤ k + n) (x : Nd) :
    Calls Tryz.prog 147 #[rp rb, mth 148 rb] w (RuleX (ArmsR x) N rb sb m s (armsF (Pu.toks s 0) (patM (Pu.toks s 0) n) (exprM (Pu.toks s 0) n) (Pu.toks s 0).length [x] k) w) := by
  obtain ⟨i0, hi0, hz0, hz1, hz2⟩ := info_parts armInfo
  have hcA : ∀ args w, (callFunc 148 args).run Tryz.prog w = .ok (.enter 148 args) w := fun _ _ => by kernel_rfl
  have hzr := h.z
  have hNw := h.ev.hN
  have hk := h.lt
  obtain ⟨r, hr⟩ : ∃ r, r = armsF (Pu.toks s 0) (patM (Pu.toks s 0) n) (exprM (Pu.toks s 0) n) (Pu.toks s 0).length [x] k := ⟨_, rfl⟩
  rw [← hr]
  obtain ⟨L, hL⟩ : ∃ L, (Pu.toks s 0).length = L + 1 := ⟨(Pu.toks s 0).length - 1, by omega⟩
  have HE : Hid (r = bnd (armM (Pu.toks s 0) (patM (Pu.toks s 0) n) (exprM (Pu.toks s 0) n)) (fun a => restArms (Pu.toks s 0) (patM (Pu.toks s 0) n) (exprM (Pu.toks s 0) n) L ([x] ++ [a.1, a.2])) k) := hide (by rw [hr, hL]; exact arms_go _ _ _ _ _ _)
  have HL := hide hL
  have HC := arm_X hs IHP IH h hn
  clear hr hL h
  go_enter Tryz.func147, Tryz.ntmps147
  go_wp2_with fail
  refine HC.mono ?_
  intro e w1 hp
  cases hA : fin (Pu.toks s 0) ((armM (Pu.toks s 0) (patM (Pu.toks s 0) n) (exprM (Pu.toks s 0) n)) k) with
  | error f' =>
    obtain ⟨rfl, hb⟩ := hp.bad hA
    exact ⟨rfl, RuleX.stop (unhide HE) hA (fun a => stall_restArms _ _ _ _ _) hb⟩
  | ok rr =>
  obtain ⟨a, k1⟩ := rr
  obtain ⟨v1, rfl, K1, S1, u1, u2, vp, ve, rfl, P1, E1⟩ := hp.ok hA
  obtain ⟨tp, xp, rfl⟩ := P1.iface
  obtain ⟨te, xe, rfl⟩ := E1.iface
  have hlt := arm_lts (pat_mono (T := (Pu.toks s 0)) n) (expr_lts n) _ _ _ (fin_ok hA).1
  have HE1 := hide ((unhide HE).trans (fin_bnd_ok hA))
  have hbw : Below w1.heap.size w1 (w1.alloc (.cells #[.int .i64 u1, .int .i64 u2, .iface tp (.agg xp), .iface te (.agg xe)] 236)) := (Below.refl _ _).alloc (Nat.le_refl _) _
  have HS1 := hide (S1.bel hbw)
  have HK1 := hide (K1.below' hbw)
  have HR1 : Hid (RowO QArm 236 4 (w1.alloc (.cells #[.int .i64 u1, .int .i64 u2, .iface tp (.agg xp), .iface te (.agg xe)] 236)) w.heap.size (some ⟨w1.heap.size, 0, none⟩) 1 [a]) := hide (RowO.one (lo := w.heap.size) (c := fun j => ([.int .i64 u1, .int .i64 u2, .iface tp (.agg xp), .iface te (.agg xe)] : List Value).getD j .nilIface) moves_arm ⟨⟨u1, u2, rfl, rfl⟩, P1, E1⟩ (Nat.le_refl _) K1.size (by decide) _ rfl rfl)
  clear hp hA HE HC P1 E1 S1 K1
  go_wp2_with fail
  go_loopg [5] ((Pu.toks s 0).length - k1) (fun gk v wr => ArmsRel N rb sb m s n k x w r gk v wr)
  case atStart => exact ⟨k1, [a], L, some ⟨w1.heap.size, 0, none⟩, 1, rfl, by simp, unhide HS1, unhide HK1, hide rfl, hlt, by simp; omega, unhide HR1, HE1, by have := unhide HL; omega⟩
  case round =>
    clear HS1 HK1 HR1 HE1 HL hbw
    obtain ⟨kr, A, f, va, vc, rfl, hA0, R, K, hgk, hle, hAl, RW, hE, hfu⟩ := hrel
    have hkr := R.lt
    by_cases hb : isT (tk (Pu.toks s 0) kr) kBar = true
    · obtain ⟨f, rfl⟩ : ∃ f', f = f' + 1 := ⟨f - 1, by omega⟩
      have hE2 : Hid (r = bnd passM (fun _ => bnd (armM (Pu.toks s 0) (patM (Pu.toks s 0) n) (exprM (Pu.toks s 0) n)) fun a => restArms (Pu.toks s 0) (patM (Pu.toks s 0) n) (exprM (Pu.toks s 0) n) f (x :: armN A ++ [a.1, a.2])) kr) := hide ((unhide hE).trans (by unfold restArms; rw [if_pos hb, arms_go]; rfl))
      have zw := K.size
      have hrw := RW.block
      clear hE
      go_wp2_with fail
      refine (took_Y R hs kBar (by decide) hb).mono ?_
      intro e w2 hp
      by_cases h6 : (tk (Pu.toks s 0) (kr + 1)).kind = 6
      · obtain ⟨rfl, hb'⟩ := hp.bad (fin_at _ h6)
        exact ⟨rfl, RuleX.stop (unhide hE2) (fin_at _ h6) (fun _ => stall_bnd (stall_arm (stall_pat _) (stall_expr _)) fun a => stall_restArms _ _ _ _ _) (K.trans hb')⟩
      obtain ⟨v2, rfl, hb2, S2, hR⟩ := hp.ok (fin_ok' _ h6)
      cases hR
      have hE3 : Hid (r = bnd (armM (Pu.toks s 0) (patM (Pu.toks s 0) n) (exprM (Pu.toks s 0) n)) (fun a => restArms (Pu.toks s 0) (patM (Pu.toks s 0) n) (exprM (Pu.toks s 0) n) f (x :: armN A ++ [a.1, a.2])) (kr + 1)) := hE2
      have HC := arm_X hs IHP IH S2 (by omega)
      have K2 := K.trans hb2
      have RW2 := RW.ke moves_arm hb2 hzr
      have z2 := hb2.size
      clear hp R RW hE2 hb2
      go_wp2_with fail
      refine HC.mono ?_
      intro e w1 hp
      cases hA : fin (Pu.toks s 0) ((armM (Pu.toks s 0) (patM (Pu.toks s 0) n) (exprM (Pu.toks s 0) n)) (kr + 1)) with
      | error f' =>
        obtain ⟨rfl, hb'⟩ := hp.bad hA
        exact ⟨rfl, RuleX.stop (unhide hE3) hA (fun a => stall_restArms _ _ _ _ _) (K2.trans hb')⟩
      | ok rr =>
      obtain ⟨a, k2⟩ := rr
      obtain ⟨v1, rfl, hb1, S1, u1, u2, vp, ve, rfl, P1, E1⟩ := hp.ok hA
      obtain ⟨tp, xp, rfl⟩ := P1.iface
      obtain ⟨te, xe, rfl⟩ := E1.iface
      have hlt := arm_lts (pat_mono (T := (Pu.toks s 0)) n) (expr_lts n) _ _ _ (fin_ok hA).1
      have HE3 := hide ((unhide hE3).trans (fin_bnd_ok hA))
      have z1 := hb1.size
      have RW1 := RW2.ke moves_arm hb1 hzr
      have hob := RW1.block
      obtain ⟨cs, hown, hPP⟩ := RW1
      have HO := hide hown
      have HPP := hide hPP
      have HP1 : Hid (QArm w1 (fun b => w2.heap.size ≤ b) a (fun j => ([.int .i64 u1, .int .i64 u2, .iface tp (.agg xp), .iface te (.agg xe)] : List Value).getD j .nilIface)) := hide ⟨⟨u1, u2, rfl, rfl⟩, P1, E1⟩
      have HS1 := hide S1
      have HK1 := hide (K2.trans hb1)
      clear hp hA HC hE3 hown hPP P1 E1 S1 hb1 RW2 K K2 S2
      go_wp2_with (at_builtin; go_must (refine wpList_append_own_at _ rfl (.tmp 11) (.tmp 14) 233 rfl w.heap.size 236 i0 _ 4 48 armsUnder hi0 hz0 hz1 hz2 rfl (by decide) (.slice va A.length vc) A.length _ rfl ((unhide HO).alloc _) ⟨w1.heap.size, 0, none⟩ 1 1 [.int .i64 u1, .int .i64 u2, .iface tp (.agg xp), .iface te (.agg xe)] rfl rfl (cells_at _ _ _ _ (by simp)) (by intro u hu; simp at hu; rcases hu with rfl | rfl | rfl | rfl <;> rfl) (by unfold maxLen; omega) (by omega) (by simp; omega) ?_; intro v3 w3 hown3 hg3 hnil3 hloc3; have Hown3 := hide hown3; have Hg3 := hide hg3; have Hloc3 := hide hloc3; clear hown3 hg3 hnil3 hloc3))
      obtain ⟨q3, c3, rfl⟩ := own_some (unhide Hown3) (by omega)
      go_roundg ((Pu.toks s 0).length - k2)
      case measure => rw [unhide hgk]; omega
      case rel =>
        have hlen : (A ++ [a]).length = A.length + 1 := by simp
        have hbw : Below w1.heap.size w1 (w1.alloc (.cells #[.int .i64 u1, .int .i64 u2, .iface tp (.agg xp), .iface te (.agg xe)] 236)) := (Below.refl _ _).alloc (Nat.le_refl _) _
        refine ⟨k2, A ++ [a], f, some ⟨q3, 0, none⟩, c3, by rw [hlen], by simp, ((unhide HS1).bel hbw).grown (unhide Hg3) (fun j e => by have := hob j e; omega), ?_, hide rfl, by omega, by rw [hlen]; omega, ?_, ?_, by omega⟩
        · exact Ke.grown (unhide Hg3) ((unhide HK1).below' hbw) (fun j e => (hob j e).1)
        · exact RowO.push (w1 := w1) (lo := w2.heap.size) (c := fun j => ([.int .i64 u1, .int .i64 u2, .iface tp (.agg xp), .iface te (.agg xe)] : List Value).getD j .nilIface) moves_arm (unhide HPP) (unhide HP1) (by omega) (fun b e => by have := (hrw b e).2; omega) hbw (unhide Hown3) (unhide Hg3) (unhide Hloc3)
        · rw [armN_app]; exact HE3
    · have hb' : isT (tk (Pu.toks s 0) kr) kBar = false := by simpa using hb
      have hE2 : Hid (r = .ok (x :: armN A, kr)) := hide ((unhide hE).trans (by unfold restArms; rw [if_neg hb]))
      go_wp2_with fail
      refine (took_N R kBar (by decide) hb').mono ?_
      rintro e w' ⟨rfl, rfl⟩
      go_wp2_with fail
      go_ret
      exact RuleX.done (unhide hE2) K R ⟨A, hA0, rfl, RW.v moves_arm⟩
end
end Go.Proofs.YteneoapickhpdaaGreatDoor
namespace Go.Proofs.YteneoapickhpdaaGreatDoor
open Go Go.RowKit Go.ChangeMaps
section
variable {w : World} {N rb sb : Nat} {m : MV} {s : ByteArray} {k n : Nat}
theorem RowV.move {α : Type} {Q : EQ α} {sz : Nat} {w w' : World} {P P' : Nat → Prop} {L : List α} {v : Value} (h : RowV Q sz w P L v) (hQ : Moves Q) (hs : w.heap.size ≤ w'.heap.size) (hb : ∀ b, P b → b < w.heap.size → w'.heap[b]? = w.heap[b]?) (hq : ∀ b, P b → b < w.heap.size → P' b) : RowV Q sz w' P' L v := by
  obtain ⟨va, vc, cs, hv, hrow, hr⟩ := h
  refine ⟨va, vc, cs, hv, ?_, fun i hi => hQ _ _ _ _ _ _ (hr i hi) hs hb hq⟩
  rcases hrow with h0 | ⟨g, h1, h2, h3, h4⟩
  · exact Or.inl h0
  · refine Or.inr ⟨g, h1, hq g h2 h3, Nat.lt_of_lt_of_le h3 hs, fun i hi j hj => ?_⟩
    rw [World.cell?_of_block (a := ⟨g, i * sz + j, none⟩) (w := w) (hb g h2 h3)]
    exact h4 i hi j hj
theorem RowV.mt {lo : Nat} {w w0 : World} {A : List (Nd × Nd)} {va : Option Addr} {vc : Nat} (h : RowV QArm 4 w (fun b => lo ≤ b) A (.slice va A.length vc)) (h0 : A ≠ []) (hlo : w0.heap.size ≤ lo) {x : Nd} {vx : Value} (hx : PE w (fun b => w0.heap.size ≤ b) x vx) (f t a : Nat) :
    PE w (fun b => w0.heap.size ≤ b) (.mk 13 kNo 0 (x :: armN A) f t a) (.iface 239 (.agg #[.int .i64 (f : Int), .int .i64 (t : Int), vx, .slice va A.length vc])) := by
  obtain ⟨va', vc', cs, hv, hrow, hr⟩ := h
  cases hv
  rcases hrow with h1 | ⟨g, rfl, h2, h3, h4⟩
  · exact absurd h1 h0
  have wd : ∀ b, lo ≤ b → w0.heap.size ≤ b := fun b p => Nat.le_trans hlo p
  refine .mt _ _ x A f t a vx g vc (fun i => cs i 2) (fun i => cs i 3) h0 (wd g h2) h3 (fun i hi => ?_) hx (fun i hi => (hr i hi).2.1.wide wd) (fun i hi => (hr i hi).2.2.wide wd)
  obtain ⟨u1, u2, e1, e2⟩ := (hr i hi).1
  exact ⟨⟨u1, u2, by rw [← e1]; exact h4 i hi 0 (by decide), by rw [← e2]; exact h4 i hi 1 (by decide)⟩, h4 i hi 2 (by decide), h4 i hi 3 (by decide)⟩
theorem stall_arms {T : List Pu.Tok} {n : Nat} (hT : 0 < T.length) (x : Nd) : Stall T (armsF T (patM T n) (exprM T n) T.length [x]) := by
  obtain ⟨L, hL⟩ : ∃ L, T.length = L + 1 := ⟨T.length - 1, by omega⟩
  rw [hL]
  intro k h
  rw [arms_go]
  exact fin_bnd_err (stall_arm (stall_pat _) (stall_expr _) k h) fun _ => stall_restArms _ _ _ _ _
set_option maxRecDepth 100000 in
set_option maxHeartbeats 2000000 in
theorem match_X (hs : s.size ≤ 1000) (hT : (Pu.toks s 0).length ≤ 1001) (IHP : PatC s n) (IH : ExprC s n) (h : SX w N rb sb m s k) (hn : (Pu.toks s 0).length ≤ k + 1 + n) :
    Calls Tryz.prog 95 #[rp rb] w (RuleX PE N rb sb m s (matchM (Pu.toks s 0) (patM (Pu.toks s 0) n) (exprM (Pu.toks s 0) n) k) w) := by
  have hf1 := tok178
  have hf2 := spn175
  have hnot : ∀ (x : Bool) (w : World), (Op.unary .not (.bool x)).run Tryz.prog w = .ok (.bool (!x)) w := fun _ _ => rfl
  have hmf : ∀ (fn : Fn) (first cap : Array Value) (w : World), (Instr.makeFunc fn first cap).run Tryz.prog w = .ok (.func fn first cap) w := fun _ _ _ _ => rfl
  have hT0 : 0 < (Pu.toks s 0).length := by have := h.lt; omega
  have hz := h.z
  have S1 := hide h
  have K2 := hide (Ke.refl rb w)
  have E3 : Hid (matchM (Pu.toks s 0) (patM (Pu.toks s 0) n) (exprM (Pu.toks s 0) n) k = bnd (wantM (Pu.toks s 0) kMatch) (fun _ => bnd (exprM (Pu.toks s 0) n) (fun x => bnd (wantM (Pu.toks s 0) kWith) (fun _ => bnd (armsF (Pu.toks s 0) (patM (Pu.toks s 0) n) (exprM (Pu.toks s 0) n) (Pu.toks s 0).length [x]) (fun l => bnd (wantM (Pu.toks s 0) kEnd) (fun _ => fun k' => .ok (Nd.mk 13 kNo 0 l (tk (Pu.toks s 0) k).frm (lastK (Pu.toks s 0) k') (tk (Pu.toks s 0) k).frm, k')))))) k) := hide rfl
  clear h
  go_enter Tryz.func95, Tryz.ntmps95
  go_wp2_with fail
  refine (take_X (unhide S1) hs kMatch (by decide)).mono ?_
  intro e w1 hp
  cases hA : fin (Pu.toks s 0) (wantM (Pu.toks s 0) kMatch k) with
  | error f' =>
    obtain ⟨rfl, hb⟩ := hp.bad hA
    exact ⟨rfl, RuleX.stop (unhide E3) hA (fun a => stall_bnd (stall_expr _) fun _ => stall_bnd (stall_want _ _) fun _ => stall_bnd (stall_arms hT0 _) fun _ => stall_bnd (stall_want _ _) fun _ => stall_ok _) ((unhide K2).trans hb)⟩
  | ok r' =>
  obtain ⟨_uw1, k1⟩ := r'
  obtain ⟨vw1, rfl, hb, hS, hR⟩ := hp.ok hA
  have S4 := hide hS
  have K5 := hide ((unhide K2).trans hb)
  have E6 := hide ((unhide E3).trans (fin_bnd_ok hA))
  have qw1 := (fin_ok hA).1
  have zw1 := hb.size
  try simp at zw1
  cases hR
  clear hp hb hS hA S1 K2 E3
  have ew1 := want_mono _ _ _ _ qw1
  go_wp2_with fail
  refine (IH _ _ _ _ _ _ (unhide S4) (by omega)).mono ?_
  intro e w2 hp
  cases hA : fin (Pu.toks s 0) (exprM (Pu.toks s 0) n k1) with
  | error f' =>
    obtain ⟨rfl, hb⟩ := hp.bad hA
    exact ⟨rfl, RuleX.stop (unhide E6) hA (fun a => stall_bnd (stall_want _ _) fun _ => stall_bnd (stall_arms hT0 _) fun _ => stall_bnd (stall_want _ _) fun _ => stall_ok _) ((unhide K5).trans hb)⟩
  | ok r' =>
  obtain ⟨x, k2⟩ := r'
  obtain ⟨v2, rfl, hb, hS, hR⟩ := hp.ok hA
  have S7 := hide hS
  have K8 := hide ((unhide K5).trans hb)
  have E9 := hide ((unhide E6).trans (fin_bnd_ok hA))
  have qw2 := (fin_ok hA).1
  have zw2 := hb.size
  try simp at zw2
  have V10 := hide hR
  obtain ⟨tv2, xv2, rfl⟩ := hR.iface
  clear hp hb hS hA S4 K5 E6 hR
  have ew2 := expr_lts n _ _ _ qw2
  go_wp2_with fail
  refine (take_X (unhide S7) hs kWith (by decide)).mono ?_
  intro e w3 hp
  cases hA : fin (Pu.toks s 0) (wantM (Pu.toks s 0) kWith k2) with
  | error f' =>
    obtain ⟨rfl, hb⟩ := hp.bad hA
    exact ⟨rfl, RuleX.stop (unhide E9) hA (fun a => stall_bnd (stall_arms hT0 _) fun _ => stall_bnd (stall_want _ _) fun _ => stall_ok _) ((unhide K8).trans hb)⟩
  | ok r' =>
  obtain ⟨_uw3, k3⟩ := r'
  obtain ⟨vw3, rfl, hb, hS, hR⟩ := hp.ok hA
  have S11 := hide hS
  have K12 := hide ((unhide K8).trans hb)
  have E13 := hide ((unhide E9).trans (fin_bnd_ok hA))
  have qw3 := (fin_ok hA).1
  have zw3 := hb.size
  try simp at zw3
  have V14 := hide ((unhide V10).ke hb (fun b p => by show b ≠ rb; have p' : w1.heap.size ≤ b := p; omega))
  clear V10
  cases hR
  clear hp hb hS hA S7 K8 E9
  have ew3 := want_mono _ _ _ _ qw3
  go_wp2_with fail
  refine (barredArm_X hs hT IHP IH (unhide S11) (by omega) x).mono ?_
  intro e w4 hp
  cases hA : fin (Pu.toks s 0) (armsF (Pu.toks s 0) (patM (Pu.toks s 0) n) (exprM (Pu.toks s 0) n) (Pu.toks s 0).length [x] k3) with
  | error f' =>
    obtain ⟨rfl, hb⟩ := hp.bad hA
    exact ⟨rfl, RuleX.stop (unhide E13) hA (fun a => stall_bnd (stall_want _ _) fun _ => stall_ok _) ((unhide K12).trans hb)⟩
  | ok r' =>
  obtain ⟨l, k4⟩ := r'
  obtain ⟨v4, rfl, hb, hS, hR⟩ := hp.ok hA
  have S15 := hide hS
  have K16 := hide ((unhide K12).trans hb)
  have E17 := hide ((unhide E13).trans (fin_bnd_ok hA))
  have qw4 := (fin_ok hA).1
  have zw4 := hb.size
  try simp at zw4
  have V18 := hide ((unhide V14).ke hb (fun b p => by show b ≠ rb; have p' : w1.heap.size ≤ b := p; omega))
  clear V14
  obtain ⟨A, hA0, rfl, hRV⟩ := hR
  have RV := hide hRV
  obtain ⟨va, vc, cs, rfl, hrow, _⟩ := hRV
  have HA0 := hide hA0
  clear hA0 hrow
  clear hp hb hS hA S11 K12 E13
  have ew4 := arms_mono (pat_mono (T := (Pu.toks s 0)) n) (expr_lts n) _ _ _ _ _ qw4
  go_wp2_with fail
  refine (take_X (unhide S15) hs kEnd (by decide)).mono ?_
  intro e w5 hp
  cases hA : fin (Pu.toks s 0) (wantM (Pu.toks s 0) kEnd k4) with
  | error f' =>
    obtain ⟨rfl, hb⟩ := hp.bad hA
    exact ⟨rfl, RuleX.stop (unhide E17) hA (fun a => stall_ok _) ((unhide K16).trans hb)⟩
  | ok r' =>
  obtain ⟨_u5, k5⟩ := r'
  obtain ⟨v5, rfl, hb, hS, hR⟩ := hp.ok hA
  have S19 := hide hS
  have K20 := hide ((unhide K16).trans hb)
  have E21 := hide ((unhide E17).trans (fin_bnd_ok hA))
  have qw5 := (fin_ok hA).1
  have zw5 := hb.size
  try simp at zw5
  have V22 := hide ((unhide V18).ke hb (fun b p => by show b ≠ rb; have p' : w1.heap.size ≤ b := p; omega))
  clear V18
  have RV5 := hide ((unhide RV).move moves_arm hb.size (fun b p z => hb.block b z (by have p' : w3.heap.size ≤ b := p; omega)) (fun _ p _ => p))
  cases hR
  clear hp hb hS hA S15 K16 E17
  go_wp2_with fail
  refine (since_X (unhide S19) _).mono ?_
  rintro e w6 ⟨rfl, hb⟩
  have S23 := hide ((unhide S19).bel hb)
  have K24 := hide ((unhide K20).below' hb)
  have zw6 := hb.size
  try simp at zw6
  have V25 := hide ((unhide V22).bel hb)
  clear V22
  have RV6 := hide ((unhide RV5).move moves_arm hb.size (fun b _ z => hb.block b z) (fun _ p _ => p))
  clear hb S19 K20
  go_wp2_with fail
  go_ret
  exact RuleX.done (unhide E21) (unhide K24) (unhide S23) ((unhide RV6).mt (unhide HA0) (by have := zw4; have := zw3; have := zw2; have := zw1; omega) ((unhide V25).wide fun b p => by have p' : w1.heap.size ≤ b := p; show w.heap.size ≤ b; omega) _ _ _)
theorem SX.word (h : SX w N rb sb m s k) : ∃ b, m.b = .map (some b) ∧ MS Value.string w b (wordL rb) := by
  obtain ⟨b', e, _, _, hM⟩ := h.ev.mp.wd
  exact ⟨b', e, hM⟩
theorem got_word {t : Pu.Tok} (ho : TokOk t) (h6 : t.kind ≠ 6) (n0 : isT t kFun = false) (n1 : isT t kLet = false) (n2 : isT t kIf = false) (n3 : isT t kMatch = false) : got (kindB t) (wordL rb) = none := by
  rcases ho.kd with h' | h' | h' | h' | h' | h' | h'
  · rw [kindB_1 h']; rfl
  · rw [kindB_2 h']; rfl
  · rw [kindB_3 h']; rfl
  · rw [kindB_4 h']; rfl
  · rw [kindB_5 h']
    refine got_no fun p hp => ?_
    simp only [wordL, List.mem_cons, List.not_mem_nil, or_false] at hp
    rcases hp with rfl | rfl | rfl | rfl
    · exact isT_ne h' n0
    · exact isT_ne h' n1
    · exact isT_ne h' n2
    · exact isT_ne h' n3
  · exact absurd h' h6
  · rw [kindB_7 h']; rfl
set_option maxRecDepth 100000 in
set_option maxHeartbeats 2000000 in
theorem expr_step (hs : s.size ≤ 1000) (hT : (Pu.toks s 0).length ≤ 1001) (IH : ExprC s n) : ExprC s (n + 1) := by
  intro w N rb sb m k h hn
  have hnot : ∀ (x : Bool) (w : World), (Op.unary .not (.bool x)).run Tryz.prog w = .ok (.bool (!x)) w := fun _ _ => rfl
  have ho := tk_ok s k h.lt
  have h6 := h.ok
  obtain ⟨b, hmb, hM⟩ := h.word
  have hl := fun q => look_tab (hM.same (w' := w.drewN q) rfl) Tryz.underlying112 (zeroFnE _) (kindB (tk (Pu.toks s 0) k))
  have hl0 := look_tab hM Tryz.underlying112 (zeroFnE _) (kindB (tk (Pu.toks s 0) k))
  obtain ⟨c, ff, z⟩ := h.bx
  have HU : exprM (Pu.toks s 0) (n + 1) k = if isT (tk (Pu.toks s 0) k) kFun = true then funM (Pu.toks s 0) (exprM (Pu.toks s 0) n) k else if isT (tk (Pu.toks s 0) k) kIf = true then choiceM (Pu.toks s 0) (exprM (Pu.toks s 0) n) k else if isT (tk (Pu.toks s 0) k) kMatch = true then matchM (Pu.toks s 0) (patM (Pu.toks s 0) n) (exprM (Pu.toks s 0) n) k else if isT (tk (Pu.toks s 0) k) kLet = true then letM (Pu.toks s 0) (exprM (Pu.toks s 0) n) k else lessM (Pu.toks s 0) (sumM (Pu.toks s 0) (prodM (Pu.toks s 0) (callM (Pu.toks s 0) (smE s n)))) k := rfl
  by_cases hb : isT (tk (Pu.toks s 0) k) kFun = true
  · have HE : Hid (exprM (Pu.toks s 0) (n + 1) k = funM (Pu.toks s 0) (exprM (Pu.toks s 0) n) k) := hide (by rw [HU, if_pos hb])
    have hg : got (kindB (tk (Pu.toks s 0) k)) (wordL rb) = some (mth 92 rb) := by rw [kindB_T hb]; rfl
    have hcf : ∀ args w, (callFunc 92 args).run Tryz.prog w = .ok (.enter 92 args) w := fun _ _ => by kernel_rfl
    simp only [hg, tupOf] at hl hl0
    clear HU
    go_enter Tryz.func146, Tryz.ntmps146
    go_wp2_with fail
    go_quiet (fail)
    go_wp2_with fail
    refine (function_X hs IH (h.bel (below_drewN _ nq)) (by omega)).mono ?_
    intro e w1 hp
    cases hA : fin (Pu.toks s 0) (funM (Pu.toks s 0) (exprM (Pu.toks s 0) n) k) with
    | error f' =>
      obtain ⟨rfl, hb'⟩ := hp.bad hA
      exact ⟨rfl, RuleX.fail ((Ke.of (below_drewN _ nq)).trans hb') (by rw [unhide HE]; exact hA)⟩
    | ok r =>
    obtain ⟨a, k2⟩ := r
    obtain ⟨v, rfl, hb', S1, hR⟩ := hp.ok hA
    have HR := hide hR
    obtain ⟨tv, xv, rfl⟩ := hR.iface
    have HE1 := hide ((unhide HE).trans (fin_ok hA).1)
    have HS1 := hide S1
    have HK1 := hide ((Ke.of (below_drewN w nq)).trans hb')
    clear hp hA hb' S1 hR
    go_wp2_with fail
    go_ret
    exact RuleX.done (unhide HE1) (unhide HK1) (unhide HS1) (unhide HR)
  have n0 := hb
  clear hb
  by_cases hb : isT (tk (Pu.toks s 0) k) kIf = true
  · have HE : Hid (exprM (Pu.toks s 0) (n + 1) k = choiceM (Pu.toks s 0) (exprM (Pu.toks s 0) n) k) := hide (by rw [HU, if_neg n0, if_pos hb])
    have hg : got (kindB (tk (Pu.toks s 0) k)) (wordL rb) = some (mth 94 rb) := by rw [kindB_T hb]; rfl
    have hcf : ∀ args w, (callFunc 94 args).run Tryz.prog w = .ok (.enter 94 args) w := fun _ _ => by kernel_rfl
    simp only [hg, tupOf] at hl hl0
    clear HU
    go_enter Tryz.func146, Tryz.ntmps146
    go_wp2_with fail
    go_quiet (fail)
    go_wp2_with fail
    refine (choice_X hs IH (h.bel (below_drewN _ nq)) (by omega)).mono ?_
    intro e w1 hp
    cases hA : fin (Pu.toks s 0) (choiceM (Pu.toks s 0) (exprM (Pu.toks s 0) n) k) with
    | error f' =>
      obtain ⟨rfl, hb'⟩ := hp.bad hA
      exact ⟨rfl, RuleX.fail ((Ke.of (below_drewN _ nq)).trans hb') (by rw [unhide HE]; exact hA)⟩
    | ok r =>
    obtain ⟨a, k2⟩ := r
    obtain ⟨v, rfl, hb', S1, hR⟩ := hp.ok hA
    have HR := hide hR
    obtain ⟨tv, xv, rfl⟩ := hR.iface
    have HE1 := hide ((unhide HE).trans (fin_ok hA).1)
    have HS1 := hide S1
    have HK1 := hide ((Ke.of (below_drewN w nq)).trans hb')
    clear hp hA hb' S1 hR
    go_wp2_with fail
    go_ret
    exact RuleX.done (unhide HE1) (unhide HK1) (unhide HS1) (unhide HR)
  have n1 := hb
  clear hb
  by_cases hb : isT (tk (Pu.toks s 0) k) kMatch = true
  · have HE : Hid (exprM (Pu.toks s 0) (n + 1) k = matchM (Pu.toks s 0) (patM (Pu.toks s 0) n) (exprM (Pu.toks s 0) n) k) := hide (by rw [HU, if_neg n0, if_neg n1, if_pos hb])
    have hg : got (kindB (tk (Pu.toks s 0) k)) (wordL rb) = some (mth 95 rb) := by rw [kindB_T hb]; rfl
    have hcf : ∀ args w, (callFunc 95 args).run Tryz.prog w = .ok (.enter 95 args) w := fun _ _ => by kernel_rfl
    simp only [hg, tupOf] at hl hl0
    clear HU
    go_enter Tryz.func146, Tryz.ntmps146
    go_wp2_with fail
    go_quiet (fail)
    go_wp2_with fail
    refine (match_X hs hT (pattern_X hs hT n) IH (h.bel (below_drewN _ nq)) (by omega)).mono ?_
    intro e w1 hp
    cases hA : fin (Pu.toks s 0) (matchM (Pu.toks s 0) (patM (Pu.toks s 0) n) (exprM (Pu.toks s 0) n) k) with
    | error f' =>
      obtain ⟨rfl, hb'⟩ := hp.bad hA
      exact ⟨rfl, RuleX.fail ((Ke.of (below_drewN _ nq)).trans hb') (by rw [unhide HE]; exact hA)⟩
    | ok r =>
    obtain ⟨a, k2⟩ := r
    obtain ⟨v, rfl, hb', S1, hR⟩ := hp.ok hA
    have HR := hide hR
    obtain ⟨tv, xv, rfl⟩ := hR.iface
    have HE1 := hide ((unhide HE).trans (fin_ok hA).1)
    have HS1 := hide S1
    have HK1 := hide ((Ke.of (below_drewN w nq)).trans hb')
    clear hp hA hb' S1 hR
    go_wp2_with fail
    go_ret
    exact RuleX.done (unhide HE1) (unhide HK1) (unhide HS1) (unhide HR)
  have n2 := hb
  clear hb
  by_cases hb : isT (tk (Pu.toks s 0) k) kLet = true
  · have HE : Hid (exprM (Pu.toks s 0) (n + 1) k = letM (Pu.toks s 0) (exprM (Pu.toks s 0) n) k) := hide (by rw [HU, if_neg n0, if_neg n1, if_neg n2, if_pos hb])
    have hg : got (kindB (tk (Pu.toks s 0) k)) (wordL rb) = some (mth 93 rb) := by rw [kindB_T hb]; rfl
    have hcf : ∀ args w, (callFunc 93 args).run Tryz.prog w = .ok (.enter 93 args) w := fun _ _ => by kernel_rfl
    simp only [hg, tupOf] at hl hl0
    clear HU
    go_enter Tryz.func146, Tryz.ntmps146
    go_wp2_with fail
    go_quiet (fail)
    go_wp2_with fail
    refine (letIn_X hs IH (h.bel (below_drewN _ nq)) (by omega)).mono ?_
    intro e w1 hp
    cases hA : fin (Pu.toks s 0) (letM (Pu.toks s 0) (exprM (Pu.toks s 0) n) k) with
    | error f' =>
      obtain ⟨rfl, hb'⟩ := hp.bad hA
      exact ⟨rfl, RuleX.fail ((Ke.of (below_drewN _ nq)).trans hb') (by rw [unhide HE]; exact hA)⟩
    | ok r =>
    obtain ⟨a, k2⟩ := r
    obtain ⟨v, rfl, hb', S1, hR⟩ := hp.ok hA
    have HR := hide hR
    obtain ⟨tv, xv, rfl⟩ := hR.iface
    have HE1 := hide ((unhide HE).trans (fin_ok hA).1)
    have HS1 := hide S1
    have HK1 := hide ((Ke.of (below_drewN w nq)).trans hb')
    clear hp hA hb' S1 hR
    go_wp2_with fail
    go_ret
    exact RuleX.done (unhide HE1) (unhide HK1) (unhide HS1) (unhide HR)
  have n3 := hb
  clear hb
  have HE : Hid (exprM (Pu.toks s 0) (n + 1) k = lessM (Pu.toks s 0) (sumM (Pu.toks s 0) (prodM (Pu.toks s 0) (callM (Pu.toks s 0) (smE s n)))) k) := hide (by rw [HU, if_neg n0, if_neg n1, if_neg n2, if_neg n3])
  have hg := got_word (rb := rb) ho h6 (by simpa using n0) (by simpa using n3) (by simpa using n1) (by simpa using n2)
  simp only [hg, tupOf] at hl hl0
  clear HU
  go_enter Tryz.func146, Tryz.ntmps146
  go_wp2_with fail
  go_quiet (fail)
  go_wp2_with fail
  refine (comparison_X hs hT IH (h.bel (below_drewN _ nq)) (by omega)).mono ?_
  intro e w1 hp
  cases hA : fin (Pu.toks s 0) (lessM (Pu.toks s 0) (sumM (Pu.toks s 0) (prodM (Pu.toks s 0) (callM (Pu.toks s 0) (smE s n)))) k) with
  | error f' =>
    obtain ⟨rfl, hb'⟩ := hp.bad hA
    exact ⟨rfl, RuleX.fail ((Ke.of (below_drewN _ nq)).trans hb') (by rw [unhide HE]; exact hA)⟩
  | ok r =>
  obtain ⟨a, k2⟩ := r
  obtain ⟨v, rfl, hb', S1, hR⟩ := hp.ok hA
  have HR := hide hR
  obtain ⟨tv, xv, rfl⟩ := hR.iface
  have HE1 := hide ((unhide HE).trans (fin_ok hA).1)
  have HS1 := hide S1
  have HK1 := hide ((Ke.of (below_drewN w nq)).trans hb')
  clear hp hA hb' S1 hR
  go_wp2_with fail
  go_ret
  exact RuleX.done (unhide HE1) (unhide HK1) (unhide HS1) (unhide HR)
theorem expr_X (hs : s.size ≤ 1000) (hT : (Pu.toks s 0).length ≤ 1001) : ∀ n, ExprC s n
  | 0 => fun w N rb sb m k h hn => by have := h.lt; omega
  | n + 1 => expr_step hs hT (expr_X hs hT n)
end
end Go.Proofs.YteneoapickhpdaaGreatDoor
namespace Go.Proofs.YteneoapickhpdaaGreatDoor
open Go Go.RowKit Go.ChangeMaps
/-- A maker of a declared type: an up name, and the types behind it. -/
def makerM (T : List Pu.Tok) (sm : M Nd) : M Nd := bnd (nameM T 2) fun t k => headF T sm 1 T.length (.mk 2 t.text 0 [] t.frm (lastK T k) t.frm) k
def restMk (T : List Pu.Tok) (mk : M Nd) (go : List Nd → M (List Nd)) (l : List Nd) : M (List Nd) := fun k => if isT (tk T k) kBar = true then go l (k + 1) else .ok (l, k)
def makersF (T : List Pu.Tok) (mk : M Nd) : Nat → List Nd → M (List Nd)
  | 0, l => fun k => .ok (l, k)
  | f + 1, l => bnd mk fun x => restMk T mk (makersF T mk f) (l ++ [x])
theorem makers_go (T : List Pu.Tok) (mk : M Nd) (f : Nat) (l : List Nd) (k : Nat) : makersF T mk (f + 1) l k = bnd mk (fun x => restMk T mk (makersF T mk f) (l ++ [x])) k := rfl
theorem stall_restMk (T : List Pu.Tok) (mk : M Nd) (go : List Nd → M (List Nd)) (l : List Nd) : Stall T (restMk T mk go l) := fun k h => by unfold restMk; rw [isT_6 h]; exact fin_at _ h
theorem stall_maker (T : List Pu.Tok) (sm : M Nd) : Stall T (makerM T sm) := stall_bnd (stall_name T 2 (by decide)) fun _ k h => stall_headF' _ _ _ _ k h
theorem maker_lts {T : List Pu.Tok} {sm : M Nd} (hm : ∀ k a k', sm k = .ok (a, k') → k < k') : Lts (makerM T sm) := fun k a k' h => by
  unfold makerM at h
  obtain ⟨_, k1, h1, h2⟩ := bnd_inv h
  have := name_mono _ _ _ _ h1
  have := headF_mono hm 1 _ _ _ _ _ h2
  omega
def QMaker : EQ Nd := fun w P nd c => ∃ (s : ByteArray) (n : Nat) (L : List Nd) (f t a y : Nat) (v : Value), nd = .mk 2 s n L f t a ∧ c 0 = .int .i64 (f : Int) ∧ c 1 = .int .i64 (t : Int) ∧ c 2 = .int .i64 (a : Int) ∧ c 3 = .int .i64 (y : Int) ∧ c 4 = .string s ∧ c 5 = v ∧ UpN s ∧ y = a + s.size ∧ RowV (Q1 PT) 1 w P L v
theorem moves_maker : Moves QMaker := fun _ _ _ _ _ _ h h1 h2 h3 => by
  obtain ⟨s, n, L, f, t, a, y, v, e0, e1, e2, e3, e4, e5, e6, e7, e8, e9⟩ := h
  exact ⟨s, n, L, f, t, a, y, v, e0, e1, e2, e3, e4, e5, e6, e7, e8, e9.move moves_pt h1 h2 h3⟩
/-- A maker, as it is answered. -/
def MakerR (w : World) (P : Nat → Prop) (nd : Nd) (v : Value) : Prop := ∃ c : Nat → Value, v = .agg #[c 0, c 1, c 2, c 3, c 4, c 5] ∧ QMaker w P nd c
def ManyT (nm : ByteArray) (w : World) (P : Nat → Prop) (a : Nd) (v : Value) : Prop := ∃ L fr to at_, a = .mk 2 nm 0 L fr to at_ ∧ RowV (Q1 PT) 1 w P L v
theorem Rows.v {w : World} {base : Nat} {va : Option Addr} {vc : Nat} {L : List Nd} (h : Rows w base va vc L) : RowV (Q1 PT) 1 w (fun b => base ≤ b) L (.slice va L.length vc) := by
  obtain ⟨vs, hl, ho, hP⟩ := h
  have hx : ∀ i (h : i < L.length), vs.getD i .nilIface = vs[i]'(by omega) := fun i h => by rw [List.getD_eq_getElem?_getD, List.getElem?_eq_getElem (by omega)]; rfl
  refine ⟨va, vc, fun i _ => vs.getD i .nilIface, rfl, ?_, fun i hi => by show PT w _ _ (vs.getD i .nilIface); rw [hx i hi]; exact (hP i hi (by omega)).wide fun b p => p.1⟩
  obtain ⟨h1, h2⟩ := ho
  rcases h2 with ⟨_, hz⟩ | ⟨q, cap, cur, hv, hg, hh, _, _, _, ht⟩
  · exact Or.inl (List.eq_nil_of_length_eq_zero hz)
  · injection hv with e1 e2 e3
    subst e1
    refine Or.inr ⟨q, rfl, hg, (Array.getElem?_eq_some_iff.1 hh).1, fun i hi j hj => ?_⟩
    have : j = 0 := by omega
    subst this
    show _ = some (vs.getD i .nilIface)
    rw [hx i hi, ← List.getElem?_eq_getElem (by omega), ← ht]
    simp only [World.cell?, hh, Nat.mul_one, Nat.add_zero]
    rw [List.getElem?_take_of_lt (by omega)]
    simp
section
variable {w : World} {N rb sb : Nat} {m : MV} {s : ByteArray} {k n : Nat}
theorem manyType_X (hs : s.size ≤ 1000) (hT : (Pu.toks s 0).length ≤ 1001) (h : SX w N rb sb m s k) (hn : (Pu.toks s 0).length ≤ k + 1 + n) (nm : ByteArray) (fr to at_ : Nat) :
    Calls Tryz.prog 140 #[rp rb, .map (some sb)] w (RuleX (ManyT nm) N rb sb m s (headF (Pu.toks s 0) (smM s n) 1 (Pu.toks s 0).length (.mk 2 nm 0 [] fr to at_) k) w) := by
  refine (many_C hs hT (arrow_C hs hT n) h.rd h.lt h.ok hn nm fr to at_).mono fun e w' hp => ?_
  obtain ⟨h1, h2⟩ := hp
  refine ⟨h1, ?_⟩
  cases hr : fin (Pu.toks s 0) (headF (Pu.toks s 0) (smM s n) 1 (Pu.toks s 0).length (.mk 2 nm 0 [] fr to at_) k) with
  | error f => rw [hr] at h2; exact h2
  | ok p =>
    obtain ⟨a, j⟩ := p
    rw [hr] at h2
    obtain ⟨va, vc, L, f1, t1, a1, e0, e1, e2, e3, e4⟩ := h2
    exact ⟨_, e1, SX.of e2 (h.ev.ke h1) e3 (fin_ok hr).2, L, f1, t1, a1, e0, e4.v⟩
theorem name2_in {k k' : Nat} {t : Pu.Tok} (h : nameM (Pu.toks s 0) 2 k = .ok (t, k')) (hk : k < (Pu.toks s 0).length) : UpN t.text ∧ t.to = t.frm + t.text.size := by
  unfold nameM at h
  split at h
  · rename_i hq
    cases h
    exact ⟨(tk_ok s k hk).v2 (by simpa using hq), (tk_in s k hk).sp⟩
  · cases h
theorem Bx.set6' {w : World} {b : Nat} {C : Array Value} (h : Bx w b C) (hC : C.size = 6) (v0 v1 v2 v3 v4 v5 : Value) : Bx ((((((w.setCell ⟨b, 0, none⟩ v0).setCell ⟨b, 1, none⟩ v1).setCell ⟨b, 2, none⟩ v2).setCell ⟨b, 3, none⟩ v3).setCell ⟨b, 4, none⟩ v4).setCell ⟨b, 5, none⟩ v5) b #[v0, v1, v2, v3, v4, v5] := by
  obtain ⟨a0, a1, a2, a3, a4, a5, rfl⟩ : ∃ a0 a1 a2 a3 a4 a5, C = #[a0, a1, a2, a3, a4, a5] := by
    obtain ⟨l⟩ := C
    match l, hC with
    | [a, b, c, d, e, f], _ => exact ⟨a, b, c, d, e, f, rfl⟩
  exact (((((h.setS' 0 v0 #[v0, a1, a2, a3, a4, a5] rfl (by simp)).setS' 1 v1 #[v0, v1, a2, a3, a4, a5] rfl (by simp)).setS' 2 v2 #[v0, v1, v2, a3, a4, a5] rfl (by simp)).setS' 3 v3 #[v0, v1, v2, v3, a4, a5] rfl (by simp)).setS' 4 v4 #[v0, v1, v2, v3, v4, a5] rfl (by simp)).setS' 5 v5 #[v0, v1, v2, v3, v4, v5] rfl (by simp)
theorem RowV.setC {α : Type} {Q : EQ α} {sz : Nat} {P : Nat → Prop} {L : List α} {v : Value} (h : RowV Q sz w P L v) (hQ : Moves Q) {b : Nat} (hb : ∀ c, P c → c ≠ b) (j : Nat) (u : Value) : RowV Q sz (w.setCell ⟨b, j, none⟩ u) P L v := h.move hQ (by simp [World.setCell]) (fun c p _ => Below.heap_setCell _ _ _ _ (hb c p)) (fun _ p _ => p)
set_option maxRecDepth 100000 in
set_option maxHeartbeats 2000000 in
theorem maker_X (hs : s.size ≤ 1000) (hT : (Pu.toks s 0).length ≤ 1001) (h : SX w N rb sb m s k) (hn : (Pu.toks s 0).length ≤ k + 1 + n) : Calls Tryz.prog 144 #[rp rb] w (RuleX MakerR N rb sb m s (makerM (Pu.toks s 0) (smM s n) k) w) := by
  have hz := h.z
  have hNw := h.ev.hN
  have hlt0 := h.lt
  have b0 : Below w.heap.size w (w.alloc (.cells #[.int .i64 0, .int .i64 0, .int .i64 0, .int .i64 0, .string ⟨#[]⟩, .slice none 0 0] 185)) := (Below.refl _ _).alloc (Nat.le_refl _) _
  have B0 := hide (Bx.new w #[.int .i64 0, .int .i64 0, .int .i64 0, .int .i64 0, .string ⟨#[]⟩, .slice none 0 0] 185)
  have HC := name_X (h.bel b0) hs 2 kUp (Or.inr ⟨rfl, rfl⟩)
  clear h
  go_enter Tryz.func144, Tryz.ntmps144
  go_wp2_with fail
  refine HC.mono ?_
  intro e w1 hp
  cases hA : fin (Pu.toks s 0) (nameM (Pu.toks s 0) 2 k) with
  | error f =>
    obtain ⟨rfl, hb⟩ := hp.bad hA
    exact ⟨rfl, RuleX.stop rfl hA (fun _ k h => stall_headF' _ _ _ _ k h) ((Ke.of b0).trans hb)⟩
  | ok r =>
  obtain ⟨t, k1⟩ := r
  obtain ⟨v, rfl, hb, hS, hR⟩ := hp.ok hA
  cases hR
  have hk1 := name_mono _ _ _ _ (fin_ok hA).1
  have Ht := hide (name2_in (fin_ok hA).1 hlt0)
  have HE1 : Hid (makerM (Pu.toks s 0) (smM s n) k = headF (Pu.toks s 0) (smM s n) 1 (Pu.toks s 0).length (.mk 2 t.text 0 [] t.frm (lastK (Pu.toks s 0) k1) t.frm) k1) := hide (fin_bnd_ok hA)
  have hb1 : Below w1.heap.size w1 (w1.alloc (.cells #[.int .i64 (t.frm : Int), .int .i64 (t.to : Int), .string t.text] 120)) := (Below.refl _ _).alloc (Nat.le_refl _) _
  have B1 := hide (((unhide B0).ke' hb (by omega)).below hb1)
  have N1 := hide (Bx.new w1 #[.int .i64 (t.frm : Int), .int .i64 (t.to : Int), .string t.text] 120)
  have K1 := hide (((Ke.of b0).trans hb).below' hb1)
  have S1 := hide (hS.bel hb1)
  have z1 := hb.size
  simp at z1
  obtain ⟨c1, f1, y1⟩ := (unhide S1).bx
  clear hp hb hS HC hb1 B0
  go_wp2_with fail
  refine (manyType_X (n := n) hs hT (unhide S1) (by omega) t.text t.frm (lastK (Pu.toks s 0) k1) t.frm).mono ?_
  intro e w3 hp
  clear c1 f1 y1
  cases hA2 : fin (Pu.toks s 0) (headF (Pu.toks s 0) (smM s n) 1 (Pu.toks s 0).length (.mk 2 t.text 0 [] t.frm (lastK (Pu.toks s 0) k1) t.frm) k1) with
  | error f' =>
    obtain ⟨rfl, hb'⟩ := hp.bad hA2
    exact ⟨rfl, RuleX.fail ((unhide K1).trans hb') (by rw [unhide HE1]; exact hA2)⟩
  | ok rr =>
  obtain ⟨a, k2⟩ := rr
  obtain ⟨v, rfl, hb3, S3, L, fr, to, at_, rfl, RV⟩ := hp.ok hA2
  obtain ⟨L', hL'⟩ := headF_form _ _ _ _ _ (fin_ok hA2).1
  injection hL' with _ _ _ e3 e4 e5 e6
  subst e3 e4 e5 e6
  have HE3 := hide ((unhide HE1).trans (fin_ok hA2).1)
  have B3 := hide ((unhide B1).ke' hb3 (by omega))
  have N3 := hide ((unhide N1).ke' hb3 (by omega))
  have S3' := hide S3
  have K3 := hide ((unhide K1).trans hb3)
  have R3 : Hid (RowV (Q1 PT) 1 w3 (fun b => w.heap.size + 1 ≤ b) L v) := hide (RV.move moves_pt (Nat.le_refl _) (fun _ _ _ => rfl) (fun b p _ => by simp at p ⊢; omega))
  obtain ⟨va, vc, cs, rfl, _, _⟩ := RV
  have z3 := hb3.size
  simp at z3
  clear hp hA hA2 S3 hb3 HE1 S1 K1 B1 N1
  obtain ⟨c3, f3, y3⟩ := unhide B3
  obtain ⟨d3, g3, x3⟩ := unhide N3
  go_wp2_with fail
  go_region_with (go_at_call 88; refine (since_X ((unhide S3').bel (Below.refl _ _).drew) _).mono ?_; rintro e w4 ⟨rfl, hb4⟩; have S4 := hide (((unhide S3').bel (Below.refl _ _).drew).bel hb4); have K4 := hide (((unhide K3).below' (Below.refl _ _).drew).below' hb4); have B4 := hide ((unhide B3).drew'.below hb4); have N4 := hide ((unhide N3).drew'.below hb4); have R4 := hide (((unhide R3).move moves_pt (Nat.le_refl _) (fun _ _ _ => rfl) (fun _ p _ => p)).move moves_pt hb4.size (fun b _ z => hb4.block b z) (fun _ p _ => p)); obtain ⟨c4, f4, y4⟩ := unhide B4; obtain ⟨d4, g4, x4⟩ := unhide N4; clear hb4)
  all_goals (
    go_wp2_with fail
    obtain ⟨cF, fF, zF⟩ := (unhide B4).set6' rfl (.int .i64 (t.frm : Int)) (.int .i64 ((lastK (Pu.toks s 0) k2 : Nat) : Int)) (.int .i64 (t.frm : Int)) (.int .i64 (t.to : Int)) (.string t.text) (.slice va L.length vc)
    refine bodyPost_ret (v := .agg #[.int .i64 (t.frm : Int), .int .i64 ((lastK (Pu.toks s 0) k2 : Nat) : Int), .int .i64 (t.frm : Int), .int .i64 (t.to : Int), .string t.text, .slice va L.length vc]) (by simp [results, Tryz.results144, go_sem, cF]) rfl ?_
    exact RuleX.done (unhide HE3) (((((((unhide K4).setNew (b := w.heap.size) (Nat.le_refl _) 0 (.int .i64 (t.frm : Int))).setNew (b := w.heap.size) (Nat.le_refl _) 1 (.int .i64 ((lastK (Pu.toks s 0) k2 : Nat) : Int))).setNew (b := w.heap.size) (Nat.le_refl _) 2 (.int .i64 (t.frm : Int))).setNew (b := w.heap.size) (Nat.le_refl _) 3 (.int .i64 (t.to : Int))).setNew (b := w.heap.size) (Nat.le_refl _) 4 (.string t.text)).setNew (b := w.heap.size) (Nat.le_refl _) 5 (.slice va L.length vc)) (((((((unhide S4).set (b := w.heap.size) hNw 0 (.int .i64 (t.frm : Int))).set (b := w.heap.size) hNw 1 (.int .i64 ((lastK (Pu.toks s 0) k2 : Nat) : Int))).set (b := w.heap.size) hNw 2 (.int .i64 (t.frm : Int))).set (b := w.heap.size) hNw 3 (.int .i64 (t.to : Int))).set (b := w.heap.size) hNw 4 (.string t.text)).set (b := w.heap.size) hNw 5 (.slice va L.length vc)) ⟨fun j => ([.int .i64 (t.frm : Int), .int .i64 ((lastK (Pu.toks s 0) k2 : Nat) : Int), .int .i64 (t.frm : Int), .int .i64 (t.to : Int), .string t.text, .slice va L.length vc] : List Value).getD j .nilIface, rfl, t.text, 0, L, t.frm, lastK (Pu.toks s 0) k2, t.frm, t.to, _, rfl, rfl, rfl, rfl, rfl, rfl, rfl, (unhide Ht).1, (unhide Ht).2, (((((((unhide R4).setC moves_pt (b := w.heap.size) (fun c p => by have p' : w.heap.size + 1 ≤ c := p; omega) 0 (.int .i64 (t.frm : Int))).setC moves_pt (b := w.heap.size) (fun c p => by have p' : w.heap.size + 1 ≤ c := p; omega) 1 (.int .i64 ((lastK (Pu.toks s 0) k2 : Nat) : Int))).setC moves_pt (b := w.heap.size) (fun c p => by have p' : w.heap.size + 1 ≤ c := p; omega) 2 (.int .i64 (t.frm : Int))).setC moves_pt (b := w.heap.size) (fun c p => by have p' : w.heap.size + 1 ≤ c := p; omega) 3 (.int .i64 (t.to : Int))).setC moves_pt (b := w.heap.size) (fun c p => by have p' : w.heap.size + 1 ≤ c := p; omega) 4 (.string t.text)).setC moves_pt (b := w.heap.size) (fun c p => by have p' : w.heap.size + 1 ≤ c := p; omega) 5 (.slice va L.length vc)).move moves_pt (Nat.le_refl _) (fun _ _ _ => rfl) (fun b p _ => by have p' : w.heap.size + 1 ≤ b := p; show w.heap.size ≤ b; omega)⟩)
end
end Go.Proofs.YteneoapickhpdaaGreatDoor
namespace Go.Proofs.YteneoapickhpdaaGreatDoor
open Go Go.RowKit Go.ChangeMaps
theorem makerInfo : (Tryz.prog.info? 185).map (fun i => (i.zero, i.size, i.bytes)) = some (some (.agg #[.int .i64 0, .int .i64 0, .int .i64 0, .int .i64 0, .string ⟨#[]⟩, .slice none 0 0]), 6, 72) := by kernel_rfl
theorem makersUnder : Tryz.prog.underlying 122 = some (.slice 185) := by kernel_rfl
theorem MakerR.open {w : World} {P : Nat → Prop} {nd : Nd} {v : Value} (h : MakerR w P nd v) : ∃ (s : ByteArray) (n : Nat) (L : List Nd) (f t a y : Nat) (va : Option Addr) (vc : Nat), nd = .mk 2 s n L f t a ∧ v = .agg #[.int .i64 (f : Int), .int .i64 (t : Int), .int .i64 (a : Int), .int .i64 (y : Int), .string s, .slice va L.length vc] ∧ UpN s ∧ y = a + s.size ∧ RowV (Q1 PT) 1 w P L (.slice va L.length vc) := by
  obtain ⟨c, rfl, s, n, L, f, t, a, y, v, e0, e1, e2, e3, e4, e5, e6, e7, e8, e9⟩ := h
  have e9' := e9
  obtain ⟨va, vc, cs, rfl, _, _⟩ := e9
  exact ⟨s, n, L, f, t, a, y, va, vc, e0, by rw [e1, e2, e3, e4, e5, e6], e7, e8, e9'⟩
def MakersR (w : World) (P : Nat → Prop) (l : List Nd) (v : Value) : Prop := l ≠ [] ∧ RowV QMaker 6 w P l v
def MakersRel (N rb sb : Nat) (m : MV) (s : ByteArray) (n k : Nat) (w : World) (r : Except Fl (List Nd × Nat)) (gk : Nat) (v : Value) (wr : World) : Prop :=
  ∃ (kr : Nat) (A : List Nd) (f : Nat) (va : Option Addr) (vc : Nat), v = .slice va A.length vc ∧ A ≠ [] ∧ SX wr N rb sb m s kr ∧ Ke rb w wr ∧ Hid (gk = (Pu.toks s 0).length - kr) ∧ k < kr ∧ A.length ≤ kr ∧ RowO QMaker 185 6 wr w.heap.size va vc A ∧ Hid (r = restMk (Pu.toks s 0) (makerM (Pu.toks s 0) (smM s n)) (makersF (Pu.toks s 0) (makerM (Pu.toks s 0) (smM s n)) f) A kr) ∧ (Pu.toks s 0).length ≤ kr + f
section
variable {w : World} {N rb sb : Nat} {m : MV} {s : ByteArray} {k n : Nat}
set_option maxRecDepth 100000 in
set_option maxHeartbeats 2000000 in
theorem barredMaker_X (hs : s.size ≤ 1000) (hT : (Pu.toks s 0).length ≤ 1001) (h : SX w N rb sb m s k) (hn : (Pu.toks s 0).length ≤ k + 1 + n) :
    Calls Tryz.prog 143 #[rp rb, mth 144 rb] w (RuleX MakersR N rb sb m s (makersF (Pu.toks s 0) (makerM (Pu.toks s 0) (smM s n)) (Pu.toks s 0).length [] k) w) := by
  obtain ⟨i0, hi0, hz0, hz1, hz2⟩ := info_parts makerInfo
  have hcA : ∀ args w, (callFunc 144 args).run Tryz.prog w = .ok (.enter 144 args) w := fun _ _ => by kernel_rfl
  have hzr := h.z
  have hNw := h.ev.hN
  have hk := h.lt
  obtain ⟨r, hr⟩ : ∃ r, r = makersF (Pu.toks s 0) (makerM (Pu.toks s 0) (smM s n)) (Pu.toks s 0).length [] k := ⟨_, rfl⟩
  rw [← hr]
  obtain ⟨L, hL⟩ : ∃ L, (Pu.toks s 0).length = L + 1 := ⟨(Pu.toks s 0).length - 1, by omega⟩
  have HE : Hid (r = bnd (makerM (Pu.toks s 0) (smM s n)) (fun a => restMk (Pu.toks s 0) (makerM (Pu.toks s 0) (smM s n)) (makersF (Pu.toks s 0) (makerM (Pu.toks s 0) (smM s n)) L) ([] ++ [a])) k) := hide (by rw [hr, hL]; exact makers_go _ _ _ _ _)
  have HL := hide hL
  have HC := maker_X (n := n) hs hT h hn
  clear hr hL h
  go_enter Tryz.func143, Tryz.ntmps143
  go_wp2_with fail
  refine HC.mono ?_
  intro e w1 hp
  cases hA : fin (Pu.toks s 0) ((makerM (Pu.toks s 0) (smM s n)) k) with
  | error f' =>
    obtain ⟨rfl, hb⟩ := hp.bad hA
    exact ⟨rfl, RuleX.stop (unhide HE) hA (fun a => stall_restMk _ _ _ _) hb⟩
  | ok rr =>
  obtain ⟨a, k1⟩ := rr
  obtain ⟨v1, rfl, K1, S1, hMR⟩ := hp.ok hA
  obtain ⟨s', n', L', f', t', a', y', va', vc', rfl, rfl, hu', hy', hRV'⟩ := hMR.open
  have hlt := maker_lts (T := (Pu.toks s 0)) (small_mono (typ_mono n) (typ_mono n) 1) _ _ _ (fin_ok hA).1
  have HE1 := hide ((unhide HE).trans (fin_bnd_ok hA))
  have hbw : Below w1.heap.size w1 (w1.alloc (.cells #[.int .i64 (f' : Int), .int .i64 (t' : Int), .int .i64 (a' : Int), .int .i64 (y' : Int), .string s', .slice va' L'.length vc'] 185)) := (Below.refl _ _).alloc (Nat.le_refl _) _
  have HS1 := hide (S1.bel hbw)
  have HK1 := hide (K1.below' hbw)
  have HR1 : Hid (RowO QMaker 185 6 (w1.alloc (.cells #[.int .i64 (f' : Int), .int .i64 (t' : Int), .int .i64 (a' : Int), .int .i64 (y' : Int), .string s', .slice va' L'.length vc'] 185)) w.heap.size (some ⟨w1.heap.size, 0, none⟩) 1 [.mk 2 s' n' L' f' t' a']) := hide (RowO.one (lo := w.heap.size) (c := fun j => ([.int .i64 (f' : Int), .int .i64 (t' : Int), .int .i64 (a' : Int), .int .i64 (y' : Int), .string s', .slice va' L'.length vc'] : List Value).getD j .nilIface) moves_maker ⟨s', n', L', f', t', a', y', _, rfl, rfl, rfl, rfl, rfl, rfl, rfl, hu', hy', hRV'⟩ (Nat.le_refl _) K1.size (by decide) _ rfl rfl)
  clear hp hA HE HC hMR hRV' hy' hu' S1 K1
  go_wp2_with fail
  go_loopg [5] ((Pu.toks s 0).length - k1) (fun gk v wr => MakersRel N rb sb m s n k w r gk v wr)
  case atStart => exact ⟨k1, [.mk 2 s' n' L' f' t' a'], L, some ⟨w1.heap.size, 0, none⟩, 1, rfl, by simp, unhide HS1, unhide HK1, hide rfl, hlt, by simp; omega, unhide HR1, HE1, by have := unhide HL; omega⟩
  case round =>
    clear HS1 HK1 HR1 HE1 HL hbw
    obtain ⟨kr, A, f, va, vc, rfl, hA0, R, K, hgk, hle, hAl, RW, hE, hfu⟩ := hrel
    have hkr := R.lt
    by_cases hb : isT (tk (Pu.toks s 0) kr) kBar = true
    · obtain ⟨f, rfl⟩ : ∃ f', f = f' + 1 := ⟨f - 1, by omega⟩
      have hE2 : Hid (r = bnd passM (fun _ => bnd (makerM (Pu.toks s 0) (smM s n)) fun a => restMk (Pu.toks s 0) (makerM (Pu.toks s 0) (smM s n)) (makersF (Pu.toks s 0) (makerM (Pu.toks s 0) (smM s n)) f) (A ++ [a])) kr) := hide ((unhide hE).trans (by unfold restMk; rw [if_pos hb, makers_go]; rfl))
      have zw := K.size
      have hrw := RW.block
      clear hE
      go_wp2_with fail
      refine (took_Y R hs kBar (by decide) hb).mono ?_
      intro e w2 hp
      by_cases h6 : (tk (Pu.toks s 0) (kr + 1)).kind = 6
      · obtain ⟨rfl, hb'⟩ := hp.bad (fin_at _ h6)
        exact ⟨rfl, RuleX.stop (unhide hE2) (fin_at _ h6) (fun _ => stall_bnd (stall_maker _ _) fun a => stall_restMk _ _ _ _) (K.trans hb')⟩
      obtain ⟨v2, rfl, hb2, S2, hR⟩ := hp.ok (fin_ok' _ h6)
      cases hR
      have hE3 : Hid (r = bnd (makerM (Pu.toks s 0) (smM s n)) (fun a => restMk (Pu.toks s 0) (makerM (Pu.toks s 0) (smM s n)) (makersF (Pu.toks s 0) (makerM (Pu.toks s 0) (smM s n)) f) (A ++ [a])) (kr + 1)) := hE2
      have HC := maker_X (n := n) hs hT S2 (by omega)
      have K2 := K.trans hb2
      have RW2 := RW.ke moves_maker hb2 hzr
      have z2 := hb2.size
      clear hp R RW hE2 hb2
      go_wp2_with fail
      refine HC.mono ?_
      intro e w1 hp
      cases hA : fin (Pu.toks s 0) ((makerM (Pu.toks s 0) (smM s n)) (kr + 1)) with
      | error f' =>
        obtain ⟨rfl, hb'⟩ := hp.bad hA
        exact ⟨rfl, RuleX.stop (unhide hE3) hA (fun a => stall_restMk _ _ _ _) (K2.trans hb')⟩
      | ok rr =>
      obtain ⟨a, k2⟩ := rr
      obtain ⟨v1, rfl, hb1, S1, hMR⟩ := hp.ok hA
      obtain ⟨s', n', L', f', t', a', y', va', vc', rfl, rfl, hu', hy', hRV'⟩ := hMR.open
      have hlt := maker_lts (T := (Pu.toks s 0)) (small_mono (typ_mono n) (typ_mono n) 1) _ _ _ (fin_ok hA).1
      have HE3 := hide ((unhide hE3).trans (fin_bnd_ok hA))
      have z1 := hb1.size
      have RW1 := RW2.ke moves_maker hb1 hzr
      have hob := RW1.block
      obtain ⟨cs, hown, hPP⟩ := RW1
      have HO := hide hown
      have HPP := hide hPP
      have HP1 : Hid (QMaker w1 (fun b => w2.heap.size ≤ b) (.mk 2 s' n' L' f' t' a') (fun j => ([.int .i64 (f' : Int), .int .i64 (t' : Int), .int .i64 (a' : Int), .int .i64 (y' : Int), .string s', .slice va' L'.length vc'] : List Value).getD j .nilIface)) := hide ⟨s', n', L', f', t', a', y', _, rfl, rfl, rfl, rfl, rfl, rfl, rfl, hu', hy', hRV'⟩
      have HS1 := hide S1
      have HK1 := hide (K2.trans hb1)
      clear hp hA HC hE3 hown hPP hMR hRV' hy' hu' S1 hb1 RW2 K K2 S2
      go_wp2_with (at_builtin; go_must (refine wpList_append_own_at _ rfl (.tmp 11) (.tmp 14) 122 rfl w.heap.size 185 i0 _ 6 72 makersUnder hi0 hz0 hz1 hz2 rfl (by decide) (.slice va A.length vc) A.length _ rfl ((unhide HO).alloc _) ⟨w1.heap.size, 0, none⟩ 1 1 [.int .i64 (f' : Int), .int .i64 (t' : Int), .int .i64 (a' : Int), .int .i64 (y' : Int), .string s', .slice va' L'.length vc'] rfl rfl (cells_at _ _ _ _ (by simp)) (by intro u hu; simp at hu; rcases hu with rfl | rfl | rfl | rfl | rfl | rfl <;> rfl) (by unfold maxLen; omega) (by omega) (by simp; omega) ?_; intro v3 w3 hown3 hg3 hnil3 hloc3; have Hown3 := hide hown3; have Hg3 := hide hg3; have Hloc3 := hide hloc3; clear hown3 hg3 hnil3 hloc3))
      obtain ⟨q3, c3, rfl⟩ := own_some (unhide Hown3) (by omega)
      go_roundg ((Pu.toks s 0).length - k2)
      case measure => rw [unhide hgk]; omega
      case rel =>
        have hlen : (A ++ [Nd.mk 2 s' n' L' f' t' a']).length = A.length + 1 := by simp
        have hbw : Below w1.heap.size w1 (w1.alloc (.cells #[.int .i64 (f' : Int), .int .i64 (t' : Int), .int .i64 (a' : Int), .int .i64 (y' : Int), .string s', .slice va' L'.length vc'] 185)) := (Below.refl _ _).alloc (Nat.le_refl _) _
        refine ⟨k2, A ++ [.mk 2 s' n' L' f' t' a'], f, some ⟨q3, 0, none⟩, c3, by rw [hlen], by simp, ((unhide HS1).bel hbw).grown (unhide Hg3) (fun j e => by have := hob j e; omega), ?_, hide rfl, by omega, by rw [hlen]; omega, ?_, ?_, by omega⟩
        · exact Ke.grown (unhide Hg3) ((unhide HK1).below' hbw) (fun j e => (hob j e).1)
        · exact RowO.push (w1 := w1) (lo := w2.heap.size) (c := fun j => ([.int .i64 (f' : Int), .int .i64 (t' : Int), .int .i64 (a' : Int), .int .i64 (y' : Int), .string s', .slice va' L'.length vc'] : List Value).getD j .nilIface) moves_maker (unhide HPP) (unhide HP1) (by omega) (fun b e => by have := (hrw b e).2; omega) hbw (unhide Hown3) (unhide Hg3) (unhide Hloc3)
        · exact HE3
    · have hb' : isT (tk (Pu.toks s 0) kr) kBar = false := by simpa using hb
      have hE2 : Hid (r = .ok (A, kr)) := hide ((unhide hE).trans (by unfold restMk; rw [if_neg hb]))
      go_wp2_with fail
      refine (took_N R kBar (by decide) hb').mono ?_
      rintro e w' ⟨rfl, rfl⟩
      go_wp2_with fail
      go_ret
      exact RuleX.done (unhide hE2) K R ⟨hA0, RW.v moves_maker⟩
end
end Go.Proofs.YteneoapickhpdaaGreatDoor
namespace Go.Proofs.YteneoapickhpdaaGreatDoor
open Go Go.RowKit Go.ChangeMaps
/-- A declaration. -/
inductive Dc where
  | ty (name : Pu.Tok) (vars : List Pu.Tok) (makers : List Nd)
  | lt (rec_ : Bool) (name : Pu.Tok) (body : Nd)
def varsF (T : List Pu.Tok) : Nat → List Pu.Tok → M (List Pu.Tok)
  | 0, l => fun k => .ok (l, k)
  | f + 1, l => fun k => if (tk T k).kind = 3 then varsF T f (l ++ [tk T k]) (k + 1) else .ok (l, k)
def typeM (T : List Pu.Tok) (mk : M Nd) : M Dc := bnd (wantM T kType) fun _ => bnd (nameM T 2) fun t => bnd (varsF T T.length []) fun vs => bnd (wantM T kEq) fun _ => bnd (makersF T mk T.length []) fun ms => bnd (wantM T kSemi) fun _ k => .ok (.ty t vs ms, k)
def letDM (T : List Pu.Tok) (e : M Nd) : M Dc := bnd (boundM T e) fun b => bnd (wantM T kSemi) fun _ k => .ok (.lt (b.1 == 11) b.2.1 b.2.2, k)
theorem stall_vars (T : List Pu.Tok) : ∀ f l, Stall T (varsF T f l)
  | 0, l => fun k h => fin_at _ h
  | f + 1, l => fun k h => by unfold varsF; rw [if_neg (by omega)]; exact fin_at _ h
theorem varsF_mono (T : List Pu.Tok) : ∀ f l k a k', varsF T f l k = .ok (a, k') → k ≤ k'
  | 0, l, k, a, k', h => by cases h; omega
  | f + 1, l, k, a, k', h => by
    unfold varsF at h
    split at h
    · have := varsF_mono T f _ _ _ _ h; omega
    · cases h; omega
theorem stall_makers {T : List Pu.Tok} (hT : 0 < T.length) {sm : M Nd} : Stall T (makersF T (makerM T sm) T.length []) := by
  obtain ⟨L, hL⟩ : ∃ L, T.length = L + 1 := ⟨T.length - 1, by omega⟩
  rw [hL]
  intro k h
  rw [makers_go]
  exact fin_bnd_err (stall_maker _ _ k h) fun _ => stall_restMk _ _ _ _
theorem makers_mono {T : List Pu.Tok} {mk : M Nd} (hm : Lts mk) : ∀ f l k a k', makersF T mk f l k = .ok (a, k') → k ≤ k'
  | 0, l, k, a, k', h => by cases h; omega
  | f + 1, l, k, a, k', h => by
    rw [makers_go] at h
    obtain ⟨_, k1, h1, h2⟩ := bnd_inv h
    have := hm _ _ _ h1
    unfold restMk at h2
    split at h2
    · have := makers_mono hm f _ _ _ _ h2; omega
    · cases h2; omega
def QName : EQ Pu.Tok := fun _ _ t c => c 0 = .int .i64 (t.frm : Int) ∧ c 1 = .int .i64 (t.to : Int) ∧ c 2 = .string (t.text.extract 1 t.text.size) ∧ (∃ r, t.text.toList = 39 :: r) ∧ t.to = t.frm + t.text.size
theorem moves_name : Moves QName := fun _ _ _ _ _ _ h _ _ _ => h
theorem nameInfo : (Tryz.prog.info? 120).map (fun i => (i.zero, i.size, i.bytes)) = some (some (.agg #[.int .i64 0, .int .i64 0, .string ⟨#[]⟩]), 3, 32) := by kernel_rfl
theorem namesUnder : Tryz.prog.underlying 121 = some (.slice 120) := by kernel_rfl
/-- A declaration of the project's tree, as it lies in memory. -/
def PD (w : World) (P : Nat → Prop) : Dc → Value → Prop
  | .ty t vs ms, v => ∃ (f u : Int) (vv vm : Value), v = .iface 124 (.agg #[.int .i64 f, .int .i64 u, .int .i64 (t.frm : Int), .int .i64 (t.to : Int), .string t.text, vv, vm]) ∧ UpN t.text ∧ t.to = t.frm + t.text.size ∧ RowV QName 3 w P vs vv ∧ ms ≠ [] ∧ RowV QMaker 6 w P ms vm
  | .lt r t b, v => ∃ (f u : Int) (vb : Value), v = .iface 131 (.agg #[.int .i64 f, .int .i64 u, .bool r, .int .i64 (t.frm : Int), .int .i64 (t.to : Int), .string t.text, vb]) ∧ LowN t.text ∧ t.to = t.frm + t.text.size ∧ PE w P b vb
theorem PD.move {w w' : World} {P Q : Nat → Prop} {d : Dc} {v : Value} (h : PD w P d v) (hs : w.heap.size ≤ w'.heap.size) (hb : ∀ b, P b → b < w.heap.size → w'.heap[b]? = w.heap[b]?) (hq : ∀ b, P b → b < w.heap.size → Q b) : PD w' Q d v := by
  cases d with
  | ty t vs ms =>
    obtain ⟨f, u, vv, vm, h1, h2, h3, h4, h5, h6⟩ := h
    exact ⟨f, u, vv, vm, h1, h2, h3, h4.move moves_name hs hb hq, h5, h6.move moves_maker hs hb hq⟩
  | lt r t b =>
    obtain ⟨f, u, vb, h1, h2, h3, h4⟩ := h
    exact ⟨f, u, vb, h1, h2, h3, h4.move hs hb hq⟩
theorem PD.iface {w : World} {P : Nat → Prop} {d : Dc} {v : Value} (h : PD w P d v) : ∃ t x, v = .iface t (.agg x) := by
  cases d with
  | ty t vs ms => obtain ⟨f, u, vv, vm, h1, _⟩ := h; exact ⟨_, _, h1⟩
  | lt r t b => obtain ⟨f, u, vb, h1, _⟩ := h; exact ⟨_, _, h1⟩
def VarsRel (N rb sb : Nat) (m : MV) (s : ByteArray) (k2 nb : Nat) (NC : Array Value) (w : World) (r : Except Fl (List Pu.Tok × Nat)) (gk : Nat) (v : Value) (wr : World) : Prop :=
  ∃ (kr : Nat) (V : List Pu.Tok) (f : Nat) (va : Option Addr) (vc : Nat), v = .slice va V.length vc ∧ SX wr N rb sb m s kr ∧ Ke rb w wr ∧ Bx wr nb NC ∧ Hid (gk = (Pu.toks s 0).length - kr) ∧ k2 ≤ kr ∧ V.length ≤ kr ∧ RowO QName 120 3 wr (nb + 1) va vc V ∧ Hid (r = varsF (Pu.toks s 0) f V kr) ∧ (Pu.toks s 0).length ≤ kr + f
section
variable {w : World} {N rb sb : Nat} {m : MV} {s : ByteArray} {k n : Nat}
theorem kind_var {t : Pu.Tok} (h : TokOk t) (hk : t.kind ≠ 6) : ((kindB t).toList == [97, 32, 118, 97, 114, 105, 97, 98, 108, 101]) = (t.kind == 3) := by
  obtain h' | h' | h' | h' | h' | h' | h' := h.kd
  · rw [kindB_1 h']; simp [h', ByteArray.toList_eq]
  · rw [kindB_2 h']; simp [h', ByteArray.toList_eq]
  · rw [kindB_3 h']; simp [h', ByteArray.toList_eq]
  · rw [kindB_4 h']; simp [h', ByteArray.toList_eq]
  · have := kind_long h hk (kd := kVar) (by decide) h'
    rw [show kVar.toList = [97, 32, 118, 97, 114, 105, 97, 98, 108, 101] from toList_mk _] at this
    rw [this]; simp [h']
  · exact absurd h' hk
  · rw [kindB_7 h']; simp [h', ByteArray.toList_eq]
theorem variableName_X (h : SX w N rb sb m s k) (hs : s.size ≤ 1000) (h3 : (tk (Pu.toks s 0) k).kind = 3) : Calls Tryz.prog 142 #[rp rb] w (RuleX (Is (.agg #[.int .i64 ((tk (Pu.toks s 0) k).frm : Int), .int .i64 ((tk (Pu.toks s 0) k).to : Int), .string ((tk (Pu.toks s 0) k).text.extract 1 (tk (Pu.toks s 0) k).text.size)])) N rb sb m s (.ok ((), k + 1)) w) :=
  (variableName_C h.rd hs (tk_to s k h.lt) h3 (tk_ok s k h.lt)).mono fun _ _ q => q.x h (by omega) rfl
set_option maxRecDepth 100000 in
set_option maxHeartbeats 2000000 in
theorem letDecl_X (hs : s.size ≤ 1000) (IH : ExprC s n) (h : SX w N rb sb m s k) (hn : (Pu.toks s 0).length ≤ k + 1 + n) :
    Calls Tryz.prog 91 #[rp rb] w (RuleX PD N rb sb m s (letDM (Pu.toks s 0) (exprM (Pu.toks s 0) n) k) w) := by
  have hf1 := tok178
  have hf2 := spn175
  have hnot : ∀ (x : Bool) (w : World), (Op.unary .not (.bool x)).run Tryz.prog w = .ok (.bool (!x)) w := fun _ _ => rfl
  have HE0 : letDM (Pu.toks s 0) (exprM (Pu.toks s 0) n) k = bnd (wantM (Pu.toks s 0) kLet) (fun _ => bnd (bindM (Pu.toks s 0) (exprM (Pu.toks s 0) n)) (fun b => bnd (wantM (Pu.toks s 0) kSemi) (fun _ => fun k => .ok (Dc.lt (b.1 == 11) b.2.1 b.2.2, k)))) k := by unfold letDM; rw [bound_bind, bnd_assoc]
  have hz := h.z
  have S1 := hide h
  have K2 := hide (Ke.refl rb w)
  have E3 := hide HE0
  clear h HE0
  go_enter Tryz.func91, Tryz.ntmps91
  go_wp2_with fail
  refine (take_X (unhide S1) hs kLet (by decide)).mono ?_
  intro e w1 hp
  cases hA : fin (Pu.toks s 0) (wantM (Pu.toks s 0) kLet k) with
  | error f' =>
    obtain ⟨rfl, hb⟩ := hp.bad hA
    exact ⟨rfl, RuleX.stop (unhide E3) hA (fun a => stall_bnd (stall_bind _) fun _ => stall_bnd (stall_want _ _) fun _ => stall_ok _) ((unhide K2).trans hb)⟩
  | ok r' =>
  obtain ⟨_uw1, k1⟩ := r'
  obtain ⟨vw1, rfl, hb, hS, hR⟩ := hp.ok hA
  have S4 := hide hS
  have K5 := hide ((unhide K2).trans hb)
  have E6 := hide ((unhide E3).trans (fin_bnd_ok hA))
  have qw1 := (fin_ok hA).1
  have zw1 := hb.size
  try simp at zw1
  cases hR
  clear hp hb hS hA S1 K2 E3
  have ew1 := want_mono _ _ _ _ qw1
  go_wp2_with fail
  refine (binding_X hs IH (unhide S4) (by omega)).mono ?_
  intro e w2 hp
  cases hA : fin (Pu.toks s 0) (bindM (Pu.toks s 0) (exprM (Pu.toks s 0) n) k1) with
  | error f' =>
    obtain ⟨rfl, hb⟩ := hp.bad hA
    exact ⟨rfl, RuleX.stop (unhide E6) hA (fun a => stall_bnd (stall_want _ _) fun _ => stall_ok _) ((unhide K5).trans hb)⟩
  | ok r' =>
  obtain ⟨b, k2⟩ := r'
  obtain ⟨v2, rfl, hb, hS, hR⟩ := hp.ok hA
  have S7 := hide hS
  have K8 := hide ((unhide K5).trans hb)
  have E9 := hide ((unhide E6).trans (fin_bnd_ok hA))
  have qw2 := (fin_ok hA).1
  have zw2 := hb.size
  try simp at zw2
  obtain ⟨ve, rfl, hV, hc1, hl1, hs1⟩ := hR
  have VB := hide hV
  obtain ⟨te, xe, rfl⟩ := hV.iface
  have HL1 := hide (And.intro hl1 hs1)
  clear hV hc1 hl1 hs1
  clear hp hb hS hA S4 K5 E6
  go_wp2_with fail
  have S10 := hide ((unhide S7).bel ((Below.refl _ _).alloc (Nat.le_refl _) (.cells #[.bool (b.1 == 11), .int .i64 (b.2.1.frm : Int), .int .i64 (b.2.1.to : Int), .string b.2.1.text, .iface te (.agg xe)] 129)))
  have K11 := hide ((unhide K8).below' ((Below.refl _ _).alloc (Nat.le_refl _) (.cells #[.bool (b.1 == 11), .int .i64 (b.2.1.frm : Int), .int .i64 (b.2.1.to : Int), .string b.2.1.text, .iface te (.agg xe)] 129)))
  clear S7 K8
  have B12 := hide (Bx.at w2 #[.bool (b.1 == 11), .int .i64 (b.2.1.frm : Int), .int .i64 (b.2.1.to : Int), .string b.2.1.text, .iface te (.agg xe)] 129 (w2.heap.size) (by simp))
  have V13 := hide ((unhide VB).bel ((Below.refl _ _).alloc (Nat.le_refl _) (.cells #[.bool (b.1 == 11), .int .i64 (b.2.1.frm : Int), .int .i64 (b.2.1.to : Int), .string b.2.1.text, .iface te (.agg xe)] 129)))
  clear VB
  refine (take_X (unhide S10) hs kSemi (by decide)).mono ?_
  intro e w3 hp
  cases hA : fin (Pu.toks s 0) (wantM (Pu.toks s 0) kSemi k2) with
  | error f' =>
    obtain ⟨rfl, hb⟩ := hp.bad hA
    exact ⟨rfl, RuleX.stop (unhide E9) hA (fun a => stall_ok _) ((unhide K11).trans hb)⟩
  | ok r' =>
  obtain ⟨_uw3, k3⟩ := r'
  obtain ⟨vw3, rfl, hb, hS, hR⟩ := hp.ok hA
  have S14 := hide hS
  have K15 := hide ((unhide K11).trans hb)
  have E16 := hide ((unhide E9).trans (fin_bnd_ok hA))
  have qw3 := (fin_ok hA).1
  have zw3 := hb.size
  try simp at zw3
  have B17 := hide ((unhide B12).ke' hb (by omega))
  clear B12
  have V18 := hide ((unhide V13).ke hb (fun b p => by show b ≠ rb; have p' : w1.heap.size ≤ b := p; omega))
  clear V13
  cases hR
  clear hp hb hS hA S10 K11 E9
  have ew3 := want_mono _ _ _ _ qw3
  go_wp2_with fail
  obtain ⟨c19, f20, z21⟩ := unhide B17
  go_wp2_with fail
  go_region_with (go_at_call 88; refine (since_X ((unhide S14).bel (Below.refl _ _).drew) _).mono ?_; rintro e w5 ⟨rfl, hb⟩; have S22 := hide (((unhide S14).bel (Below.refl _ _).drew).bel hb); have K23 := hide (((unhide K15).below' (Below.refl _ _).drew).below' hb); have V24 := hide (((unhide V18).bel (Below.refl _ _).drew).bel hb); have B25 := hide ((unhide B17).drew'.below hb); obtain ⟨c26, fc26, zc26⟩ := unhide B25; clear hb)
  all_goals (
    go_wp2_with fail
    go_ret
    exact RuleX.done (unhide E16) (unhide K23) (unhide S22) ⟨_, _, _, rfl, (unhide HL1).1, (unhide HL1).2, ((unhide V24).wide fun b p => by have p' : w1.heap.size ≤ b := p; show w.heap.size ≤ b; omega)⟩)
set_option maxRecDepth 100000 in
set_option maxHeartbeats 2000000 in
theorem typeDecl_X (hs : s.size ≤ 1000) (hT : (Pu.toks s 0).length ≤ 1001) (h : SX w N rb sb m s k) (hn : (Pu.toks s 0).length ≤ k + 1 + n) :
    Calls Tryz.prog 90 #[rp rb] w (RuleX PD N rb sb m s (typeM (Pu.toks s 0) (makerM (Pu.toks s 0) (smM s n)) k) w) := by
  obtain ⟨i0, hi0, hz0, hz1, hz2⟩ := info_parts nameInfo
  have hmf : ∀ (fn : Fn) (first cap : Array Value) (w : World), (Instr.makeFunc fn first cap).run Tryz.prog w = .ok (.func fn first cap) w := fun _ _ _ _ => rfl
  have hT0 : 0 < (Pu.toks s 0).length := by have := h.lt; omega
  have hNw := h.ev.hN
  have hf1 := tok178
  have hf2 := spn175
  have hnot : ∀ (x : Bool) (w : World), (Op.unary .not (.bool x)).run Tryz.prog w = .ok (.bool (!x)) w := fun _ _ => rfl
  have hz := h.z
  have S1 := hide h
  have K2 := hide (Ke.refl rb w)
  have E3 : Hid (typeM (Pu.toks s 0) (makerM (Pu.toks s 0) (smM s n)) k = bnd (wantM (Pu.toks s 0) kType) (fun _ => bnd (nameM (Pu.toks s 0) 2) (fun t => bnd (varsF (Pu.toks s 0) (Pu.toks s 0).length []) (fun vs => bnd (wantM (Pu.toks s 0) kEq) (fun _ => bnd (makersF (Pu.toks s 0) (makerM (Pu.toks s 0) (smM s n)) (Pu.toks s 0).length []) (fun ms => bnd (wantM (Pu.toks s 0) kSemi) (fun _ => fun k => .ok (Dc.ty t vs ms, k))))))) k) := hide rfl
  clear h
  go_enter Tryz.func90, Tryz.ntmps90
  go_wp2_with fail
  refine (take_X (unhide S1) hs kType (by decide)).mono ?_
  intro e w1 hp
  cases hA : fin (Pu.toks s 0) (wantM (Pu.toks s 0) kType k) with
  | error f' =>
    obtain ⟨rfl, hb⟩ := hp.bad hA
    exact ⟨rfl, RuleX.stop (unhide E3) hA (fun a => stall_bnd (stall_name _ _ (by decide)) fun _ => stall_bnd (stall_vars _ _ _) fun _ => stall_bnd (stall_want _ _) fun _ => stall_bnd (stall_makers hT0) fun _ => stall_bnd (stall_want _ _) fun _ => stall_ok _) ((unhide K2).trans hb)⟩
  | ok r' =>
  obtain ⟨_uw1, k1⟩ := r'
  obtain ⟨vw1, rfl, hb, hS, hR⟩ := hp.ok hA
  have S4 := hide hS
  have K5 := hide ((unhide K2).trans hb)
  have E6 := hide ((unhide E3).trans (fin_bnd_ok hA))
  have qw1 := (fin_ok hA).1
  have zw1 := hb.size
  try simp at zw1
  cases hR
  clear hp hb hS hA S1 K2 E3
  have ew1 := want_mono _ _ _ _ qw1
  go_wp2_with fail
  have lw2 := (unhide S4).lt
  refine (name_X (unhide S4) hs 2 kUp (Or.inr ⟨rfl, rfl⟩)).mono ?_
  intro e w2 hp
  cases hA : fin (Pu.toks s 0) (nameM (Pu.toks s 0) 2 k1) with
  | error f' =>
    obtain ⟨rfl, hb⟩ := hp.bad hA
    exact ⟨rfl, RuleX.stop (unhide E6) hA (fun a => stall_bnd (stall_vars _ _ _) fun _ => stall_bnd (stall_want _ _) fun _ => stall_bnd (stall_makers hT0) fun _ => stall_bnd (stall_want _ _) fun _ => stall_ok _) ((unhide K5).trans hb)⟩
  | ok r' =>
  obtain ⟨t, k2⟩ := r'
  obtain ⟨vw2, rfl, hb, hS, hR⟩ := hp.ok hA
  have S7 := hide hS
  have K8 := hide ((unhide K5).trans hb)
  have E9 := hide ((unhide E6).trans (fin_bnd_ok hA))
  have qw2 := (fin_ok hA).1
  have zw2 := hb.size
  try simp at zw2
  cases hR
  clear hp hb hS hA S4 K5 E6
  have ew2 := name_mono _ _ _ _ qw2
  have Ht := hide (name2_in qw2 lw2)
  go_wp2_with fail
  have S10 := hide ((unhide S7).bel ((Below.refl _ _).alloc (Nat.le_refl _) (.cells #[.int .i64 (t.frm : Int), .int .i64 (t.to : Int), .string t.text] 120)))
  have K11 := hide ((unhide K8).below' ((Below.refl _ _).alloc (Nat.le_refl _) (.cells #[.int .i64 (t.frm : Int), .int .i64 (t.to : Int), .string t.text] 120)))
  clear S7 K8
  have B12 := hide (Bx.at w2 #[.int .i64 (t.frm : Int), .int .i64 (t.to : Int), .string t.text] 120 (w2.heap.size) (by simp))
  have hk2 := (unhide S10).lt
  obtain ⟨r, hr⟩ : ∃ r, r = varsF (Pu.toks s 0) (Pu.toks s 0).length [] k2 := ⟨_, rfl⟩
  have Hr := hide hr
  clear hr
  go_loopg [5] ((Pu.toks s 0).length - k2) (fun gk v wr => VarsRel N rb sb m s k2 w2.heap.size #[.int .i64 (t.frm : Int), .int .i64 (t.to : Int), .string t.text] w r gk v wr)
  case atStart => exact ⟨k2, [], (Pu.toks s 0).length, none, 0, rfl, unhide S10, unhide K11, unhide B12, hide rfl, Nat.le_refl _, by simp, RowO.nil _ _ _ _ _, Hr, by omega⟩
  case round =>
    clear S10 K11 B12
    obtain ⟨kr, V, f, va, vc, rfl, R, K, BN, hgk, hle, hVl, RW, hE, hfu⟩ := hrel
    have hkr := R.lt
    have ho := tk_ok s kr hkr
    have hin := tk_in s kr hkr
    have hkv := kind_var ho R.ok
    have zn := BN.z
    obtain ⟨c, ff, z⟩ := R.bx
    by_cases h3 : (tk (Pu.toks s 0) kr).kind = 3
    · have hkv' : ((kindB (tk (Pu.toks s 0) kr)).toList == [97, 32, 118, 97, 114, 105, 97, 98, 108, 101]) = true := by rw [hkv]; simp [h3]
      obtain ⟨f, rfl⟩ : ∃ f', f = f' + 1 := ⟨f - 1, by omega⟩
      have hE2 : Hid (r = varsF (Pu.toks s 0) f (V ++ [(tk (Pu.toks s 0) kr)]) (kr + 1)) := hide ((unhide hE).trans (by show (if (tk (Pu.toks s 0) kr).kind = 3 then _ else _) = _; rw [if_pos h3]))
      have zw := K.size
      have hrw := RW.block
      have HC := variableName_X R hs h3
      have Hin := hide (And.intro (ho.v3 h3) hin.sp)
      clear hE hkv hin
      go_wp2_with fail
      refine HC.mono ?_
      intro e w1' hp
      by_cases h6 : (tk (Pu.toks s 0) (kr + 1)).kind = 6
      · obtain ⟨rfl, hb'⟩ := hp.bad (fin_at _ h6)
        refine ⟨rfl, RuleX.fail (K.trans hb') ?_⟩
        rw [unhide E9]
        refine fin_bnd_err ?_ (fun a => stall_bnd (stall_want _ _) fun _ => stall_bnd (stall_makers hT0) fun _ => stall_bnd (stall_want _ _) fun _ => stall_ok _)
        rw [← unhide Hr, unhide hE2]
        exact stall_vars _ _ _ _ h6
      obtain ⟨v1, rfl, hb1, S1, hR⟩ := hp.ok (fin_ok' _ h6)
      cases hR
      have z1 := hb1.size
      have RW1 := RW.ke moves_name hb1 (by omega)
      have hob := RW1.block
      obtain ⟨cs, hown, hPP⟩ := RW1
      have HO := hide hown
      have HPP := hide hPP
      have HP1 : Hid (QName w1' (fun b => wr.heap.size ≤ b) (tk (Pu.toks s 0) kr) (fun j => ([.int .i64 ((tk (Pu.toks s 0) kr).frm : Int), .int .i64 ((tk (Pu.toks s 0) kr).to : Int), .string ((tk (Pu.toks s 0) kr).text.extract 1 (tk (Pu.toks s 0) kr).text.size)] : List Value).getD j .nilIface)) := hide ⟨rfl, rfl, rfl, (unhide Hin).1, (unhide Hin).2⟩
      have HS1 := hide S1
      have HK1 := hide (K.trans hb1)
      have HBN := hide (BN.ke' hb1 (by omega))
      clear hp HC hown hPP S1 hb1 R K BN RW c ff z hkv'
      go_wp2_with (at_builtin; go_must (refine wpList_append_own_at _ rfl (.tmp 19) (.tmp 22) 121 rfl (w2.heap.size + 1) 120 i0 _ 3 32 namesUnder hi0 hz0 hz1 hz2 rfl (by decide) (.slice va V.length vc) V.length _ rfl ((unhide HO).alloc _) ⟨w1'.heap.size, 0, none⟩ 1 1 [.int .i64 ((tk (Pu.toks s 0) kr).frm : Int), .int .i64 ((tk (Pu.toks s 0) kr).to : Int), .string ((tk (Pu.toks s 0) kr).text.extract 1 (tk (Pu.toks s 0) kr).text.size)] rfl rfl (cells_at _ _ _ _ (by simp)) (by intro u hu; simp at hu; rcases hu with rfl | rfl | rfl <;> rfl) (by unfold maxLen; omega) (by omega) (by simp; omega) ?_; intro v3 w3 hown3 hg3 hnil3 hloc3; have Hown3 := hide hown3; have Hg3 := hide hg3; have Hloc3 := hide hloc3; clear hown3 hg3 hnil3 hloc3))
      obtain ⟨q3, c3, rfl⟩ := own_some (unhide Hown3) (by omega)
      go_roundg ((Pu.toks s 0).length - (kr + 1))
      case measure => rw [unhide hgk]; omega
      case rel =>
        have hlen : (V ++ [(tk (Pu.toks s 0) kr)]).length = V.length + 1 := by simp
        have hbw : Below w1'.heap.size w1' (w1'.alloc (.cells #[.int .i64 ((tk (Pu.toks s 0) kr).frm : Int), .int .i64 ((tk (Pu.toks s 0) kr).to : Int), .string ((tk (Pu.toks s 0) kr).text.extract 1 (tk (Pu.toks s 0) kr).text.size)] 120)) := (Below.refl _ _).alloc (Nat.le_refl _) _
        refine ⟨kr + 1, V ++ [(tk (Pu.toks s 0) kr)], f, some ⟨q3, 0, none⟩, c3, by rw [hlen], ((unhide HS1).bel hbw).grown (unhide Hg3) (fun j e => by have := hob j e; omega), ?_, ?_, hide rfl, by omega, by rw [hlen]; omega, ?_, hE2, by omega⟩
        · exact Ke.grown (unhide Hg3) ((unhide HK1).below' hbw) (fun j e => by have := (hob j e).1; omega)
        · exact Bx.grown (unhide Hg3) ((unhide HBN).below hbw) (fun j e => by have := (hob j e).1; omega)
        · exact RowO.push (w1 := w1') (lo := wr.heap.size) (c := fun j => ([.int .i64 ((tk (Pu.toks s 0) kr).frm : Int), .int .i64 ((tk (Pu.toks s 0) kr).to : Int), .string ((tk (Pu.toks s 0) kr).text.extract 1 (tk (Pu.toks s 0) kr).text.size)] : List Value).getD j .nilIface) moves_name (unhide HPP) (unhide HP1) (by omega) (fun b e => (hrw b e).2) hbw (unhide Hown3) (unhide Hg3) (unhide Hloc3)
    · have hkv' : ((kindB (tk (Pu.toks s 0) kr)).toList == [97, 32, 118, 97, 114, 105, 97, 98, 108, 101]) = false := by rw [hkv]; simp [h3]
      have EV : Hid (varsF (Pu.toks s 0) (Pu.toks s 0).length [] k2 = .ok (V, kr)) := hide (by rw [← unhide Hr, unhide hE]; cases f with | zero => rfl | succ f => (show (if (tk (Pu.toks s 0) kr).kind = 3 then _ else _) = _; rw [if_neg h3]))
      have EX0 := hide ((unhide E9).trans (bnd_ok (unhide EV)))
      have SX0 := hide R
      have KX0 := hide K
      have BX0 := hide BN
      have RX0 := hide (RW.v moves_name)
      have zw := K.size
      clear hE hkv hin RW R K BN
      go_wp2_with fail
      clear c ff z
      refine (take_X (unhide SX0) hs kEq (by decide)).mono ?_
      intro e w3 hp
      cases hA : fin (Pu.toks s 0) (wantM (Pu.toks s 0) kEq kr) with
      | error f' =>
        obtain ⟨rfl, hb⟩ := hp.bad hA
        exact ⟨rfl, RuleX.stop (unhide EX0) hA (fun a => stall_bnd (stall_makers hT0) fun _ => stall_bnd (stall_want _ _) fun _ => stall_ok _) ((unhide KX0).trans hb)⟩
      | ok r' =>
      obtain ⟨_uw3, k3⟩ := r'
      obtain ⟨vw3, rfl, hb, hS, hR⟩ := hp.ok hA
      have S701 := hide hS
      have K702 := hide ((unhide KX0).trans hb)
      have E703 := hide ((unhide EX0).trans (fin_bnd_ok hA))
      have qw3 := (fin_ok hA).1
      have zw3 := hb.size
      try simp at zw3
      have B704 := hide ((unhide BX0).ke' hb (by omega))
      clear BX0
      have RX1 := hide ((unhide RX0).move moves_name hb.size (fun b p z => hb.block b z (by have p' : w2.heap.size + 1 ≤ b := p; omega)) (fun _ p _ => p))
      cases hR
      clear hp hb hS hA SX0 KX0 EX0
      have ew3 := want_mono _ _ _ _ qw3
      go_wp2_with fail
      refine (barredMaker_X (n := n) hs hT (unhide S701) (by omega)).mono ?_
      intro e w4 hp
      cases hA : fin (Pu.toks s 0) (makersF (Pu.toks s 0) (makerM (Pu.toks s 0) (smM s n)) (Pu.toks s 0).length [] k3) with
      | error f' =>
        obtain ⟨rfl, hb⟩ := hp.bad hA
        exact ⟨rfl, RuleX.stop (unhide E703) hA (fun a => stall_bnd (stall_want _ _) fun _ => stall_ok _) ((unhide K702).trans hb)⟩
      | ok r' =>
      obtain ⟨ms, k4⟩ := r'
      obtain ⟨v4, rfl, hb, hS, hR⟩ := hp.ok hA
      have S705 := hide hS
      have K706 := hide ((unhide K702).trans hb)
      have E707 := hide ((unhide E703).trans (fin_bnd_ok hA))
      have qw4 := (fin_ok hA).1
      have zw4 := hb.size
      try simp at zw4
      have B708 := hide ((unhide B704).ke' hb (by omega))
      clear B704
      have RX2 := hide ((unhide RX1).move moves_name hb.size (fun b p z => hb.block b z (by have p' : w2.heap.size + 1 ≤ b := p; omega)) (fun _ p _ => p))
      obtain ⟨hm0, hRV⟩ := hR
      have HM0 := hide hm0
      have MV0 := hide hRV
      obtain ⟨va4, vc4, cs4, rfl, _, _⟩ := hRV
      clear hm0
      clear hp hb hS hA S701 K702 E703
      have ew4 := makers_mono (T := (Pu.toks s 0)) (maker_lts (small_mono (typ_mono n) (typ_mono n) 1)) _ _ _ _ _ qw4
      go_wp2_with fail
      refine (take_X (unhide S705) hs kSemi (by decide)).mono ?_
      intro e w5 hp
      cases hA : fin (Pu.toks s 0) (wantM (Pu.toks s 0) kSemi k4) with
      | error f' =>
        obtain ⟨rfl, hb⟩ := hp.bad hA
        exact ⟨rfl, RuleX.stop (unhide E707) hA (fun a => stall_ok _) ((unhide K706).trans hb)⟩
      | ok r' =>
      obtain ⟨_uw5, k5⟩ := r'
      obtain ⟨vw5, rfl, hb, hS, hR⟩ := hp.ok hA
      have S709 := hide hS
      have K710 := hide ((unhide K706).trans hb)
      have E711 := hide ((unhide E707).trans (fin_bnd_ok hA))
      have qw5 := (fin_ok hA).1
      have zw5 := hb.size
      try simp at zw5
      have B712 := hide ((unhide B708).ke' hb (by omega))
      clear B708
      have RX3 := hide ((unhide RX2).move moves_name hb.size (fun b p z => hb.block b z (by have p' : w2.heap.size + 1 ≤ b := p; omega)) (fun _ p _ => p))
      have MV1 := hide ((unhide MV0).move moves_maker hb.size (fun b p z => hb.block b z (by have p' : w3.heap.size ≤ b := p; omega)) (fun _ p _ => p))
      cases hR
      clear hp hb hS hA S705 K706 E707
      have ew5 := want_mono _ _ _ _ qw5
      go_wp2_with fail
      obtain ⟨c713, f714, z715⟩ := unhide B712
      go_region_with (go_at_call 88; refine (since_X ((unhide S709).bel (Below.refl _ _).drew) _).mono ?_; rintro e w6 ⟨rfl, hb⟩; have S6 := hide (((unhide S709).bel (Below.refl _ _).drew).bel hb); have K6 := hide (((unhide K710).below' (Below.refl _ _).drew).below' hb); have N6 := hide ((unhide B712).drew'.below hb); have RX6 := hide ((unhide RX3).move moves_name hb.size (fun b _ z => hb.block b z) (fun _ p _ => p)); have MV6 := hide ((unhide MV1).move moves_maker hb.size (fun b _ z => hb.block b z) (fun _ p _ => p)); obtain ⟨c6, f6, y6⟩ := unhide N6; clear hb)
      all_goals (
        go_wp2_with fail
        go_ret
        exact RuleX.done (unhide E711) (unhide K6) (unhide S6) ⟨_, _, _, _, rfl, (unhide Ht).1, (unhide Ht).2, (unhide RX6).move moves_name (Nat.le_refl _) (fun _ _ _ => rfl) (fun b p _ => by have p' : w2.heap.size + 1 ≤ b := p; show w.heap.size ≤ b; omega), unhide HM0, (unhide MV6).move moves_maker (Nat.le_refl _) (fun _ _ _ => rfl) (fun b p _ => by have p' : w3.heap.size ≤ b := p; show w.heap.size ≤ b; omega)⟩)
end
end Go.Proofs.YteneoapickhpdaaGreatDoor
