import Derived.BigQuiet
import Derived.Deep.LoopGhost
import Derived.Deep.QuietTactic
import Derived.Deep.RegionWith
import Derived.Lib.ConvBytes
import Derived.Maps.AppendAt
import Derived.Test.YteneoapickhpdaaGreatDoorGPk
import Derived.Test.YteneoapickhpdaaGreatDoorGXd
set_option linter.unusedSimpArgs false
set_option linter.unusedVariables false
set_option linter.unusedSectionVars false
namespace Go.Proofs.YteneoapickhpdaaGreatDoor
open Go Go.RowKit
theorem below_bytes (w : World) (e : TypeId) (s : ByteArray) : Below w.heap.size w (Lib.bytesWorld w e s) := by
  refine ⟨?_, ?_, ?_, by rw [Lib.bytesWorld_size]; omega, fun b hb => Lib.bytesWorld_at_old w e s b hb⟩
  all_goals (simp [Lib.bytesWorld, World.freeze]; try rfl)
section
variable {w : World}
set_option maxRecDepth 100000 in
set_option maxHeartbeats 2000000 in
theorem iatoi_C (s : ByteArray) (h : DigN s) : Calls Tryz.prog 165 #[.string s] w fun e w' => e = .returned (.tuple #[.int .i64 (numB s : Int), .nilIface]) ∧ Below w.heap.size w w' := by
  obtain ⟨h0, h9, hd⟩ := h
  have hcv := Lib.run_convert_string_bytes (P := Tryz.prog) w 9 72 5 s Tryz.underlying9 Tryz.underlying72 Tryz.underlying5
  have hb := below_bytes w 5 s
  have hcell := fun j hj => Lib.bytesWorld_cell w 5 s j hj
  have l0 : (0 : Int) < (s.size : Int) := by omega
  have l1 : (s.size : Int) < 19 := by omega
  have a0 := hd 0 h0
  rw [Pu.at_lt h0] at a0
  simp only [Pu.digB, Bool.and_eq_true, Nat.ble_eq] at a0
  have e1 : ((s[0].toNat : Int) == 45) = false := by simp; omega
  have e2 : ((s[0].toNat : Int) == 43) = false := by simp; omega
  generalize Lib.bytesWorld w 5 s = W at hcv hb hcell
  generalize grownCap w s.size 0 5 = C at hcv
  go_enter Tryz.func165, Tryz.ntmps165
  go_wp2_with fail
  go_loop [6, 49] (fun n i => ∃ k : Nat, k ≤ s.size ∧ i = .int .i64 (k : Int) ∧ n = .int .i64 (numF s k : Int)) (fun _ i => s.size - (intOf i).toNat)
  case atStart => exact ⟨0, by omega, rfl, rfl⟩
  case round =>
    obtain ⟨k, h1, rfl, rfl⟩ := hrel
    have hn := numF_le s k (by omega)
    by_cases ha : k < s.size
    · have hc := hcell k ha
      have dk := hd k ha
      have ek : s.data.toList.getD k 0 = s[k] := by
        rw [List.getD_eq_getElem?_getD, List.getElem?_eq_getElem (by simpa using ha)]; rfl
      rw [ek] at hc
      rw [Pu.at_lt ha] at dk
      simp only [Pu.digB, Bool.and_eq_true, Nat.ble_eq] at dk
      have hlt : (k : Int) < (s.size : Int) := by omega
      clear hcell
      go_wp2
      refine ⟨⟨k + 1, by omega, by go_num, congrArg (Value.int .i64) ?_⟩, by simp [intOf]; omega⟩
      simp only [numF, Pu.at_lt ha]
      omega
    · have hlt : decide ((k : Int) < (s.size : Int)) = false := by simp; omega
      clear hcell
      go_wp2
      go_ret2
      have ek : k = s.size := by omega
      refine ⟨?_, hb⟩
      show Ending.returned (.tuple #[.int .i64 (numF s k : Int), .nilIface]) = _
      unfold numB
      rw [show min s.size 9 = k by omega]
theorem errNil (w : World) : (binOp .neq 190 .nilIface .nilIface).run Tryz.prog w = .ok (.bool false) w := by kernel_rfl
set_option maxRecDepth 100000 in
set_option maxHeartbeats 1000000 in
theorem atoi_C (s : ByteArray) (h : DigN s) : Calls Tryz.prog 149 #[.string s] w fun e w' => e = .returned (.tuple #[.int .i64 (numB s : Int), .nilIface]) ∧ Below w.heap.size w w' := by
  have HC := iatoi_C (w := w) s h
  have hn := errNil
  go_enter Tryz.func149, Tryz.ntmps149
  go_wp2_with fail
  refine HC.mono ?_
  rintro e w1 ⟨rfl, hb⟩
  clear HC
  go_wp2_with fail
  go_ret2
  exact ⟨rfl, hb⟩
end
end Go.Proofs.YteneoapickhpdaaGreatDoor
namespace Go.Proofs.YteneoapickhpdaaGreatDoor
open Go Go.RowKit Go.ChangeMaps
section
variable {w : World} {N rb sb : Nat} {m : MV} {s : ByteArray} {k : Nat}
theorem SX.set (h : SX w N rb sb m s k) {b : Nat} (hb : N ≤ b) (j : Nat) (v : Value) : SX (w.setCell ⟨b, j, none⟩ v) N rb sb m s k :=
  h.move (by simp [World.setCell]) fun c hc => Below.heap_setCell _ _ _ _ (by show c ≠ b; omega)
theorem SX.set3 (h : SX w N rb sb m s k) {b : Nat} (hb : N ≤ b) (v0 v1 v2 : Value) : SX (((w.setCell ⟨b, 0, none⟩ v0).setCell ⟨b, 1, none⟩ v1).setCell ⟨b, 2, none⟩ v2) N rb sb m s k := ((h.set hb 0 v0).set hb 1 v1).set hb 2 v2
/-- A token is taken, whatever it is. -/
theorem next_X (h : SX w N rb sb m s k) (hs : s.size ≤ 1000) (h7 : (tk (Pu.toks s 0) k).kind ≠ 7) : Calls Tryz.prog 78 #[rp rb] w (RuleX (Is (tkA (tk (Pu.toks s 0) k))) N rb sb m s (.ok ((), k + 1)) w) :=
  (next_C h.rd hs (tk_to s k h.lt)).mono fun e w' hp => by
    have hp' : StepPost rb sb m s (tk (Pu.toks s 0) k) (ptokV (tk (Pu.toks s 0) k)) w e w' := hp
    exact hp'.x (R := Is (tkA (tk (Pu.toks s 0) k))) h h7 rfl
theorem takeNum_X (h : SX w N rb sb m s k) (hs : s.size ≤ 1000) (h4 : (tk (Pu.toks s 0) k).kind = 4) : Calls Tryz.prog 46 #[rp rb, .string kNum] w (RuleX (Is (tkA (tk (Pu.toks s 0) k))) N rb sb m s (.ok ((), k + 1)) w) := by
  have hk := kind_num (tk_ok s k h.lt) h.ok
  rw [h4] at hk
  refine (take_yes h.rd hs (tk_to s k h.lt) kNum (by simpa using hk)).mono fun e w' hp => ?_
  have hp' : StepPost rb sb m s (tk (Pu.toks s 0) k) (ptokV (tk (Pu.toks s 0) k)) w e w' := hp
  exact hp'.x (R := Is (tkA (tk (Pu.toks s 0) k))) h (by omega) rfl
theorem nameM_ok {T : List Pu.Tok} {n k : Nat} (h : (tk T k).kind = n) : nameM T n k = .ok (tk T k, k + 1) := by unfold nameM; rw [if_pos (by simp [h])]
theorem leaf_of {T : List Pu.Tok} {k : Nat} (c : Nat) (h : leafK (tk T k) = c) : leafN (tk T k) = .mk c (tk T k).text (leafNum (tk T k)) [] (tk T k).frm (tk T k).to (tk T k).frm := by unfold leafN; rw [h]
set_option maxRecDepth 100000 in
set_option maxHeartbeats 2000000 in
theorem lowName_X (h : SX w N rb sb m s k) (hs : s.size ≤ 1000) : Calls Tryz.prog 97 #[rp rb] w (RuleX IsName N rb sb m s (nameM (Pu.toks s 0) 1 k) w) := by
  have hz := h.z
  have hN := h.ev.hN
  have b0 : Below w.heap.size w (w.alloc (.cells zNm 195)) := (Below.refl _ _).alloc (Nat.le_refl _) _
  have B0 := hide (Bx.new w zNm 195)
  have HC := name_X (h.bel b0) hs 1 kLow (Or.inl ⟨rfl, rfl⟩)
  go_enter Tryz.func97, Tryz.ntmps97
  go_wp2_with fail
  refine HC.mono ?_
  intro e w1 hp
  cases hA : fin (Pu.toks s 0) (nameM (Pu.toks s 0) 1 k) with
  | error f =>
    obtain ⟨rfl, hb⟩ := hp.bad hA
    exact ⟨rfl, RuleX.fail ((Ke.of b0).trans hb) hA⟩
  | ok r =>
  obtain ⟨t, k1⟩ := r
  obtain ⟨v, rfl, hb, hS, hR⟩ := hp.ok hA
  cases hR
  have B1 := hide (((unhide B0).ke' hb (by omega)).alloc (.cells #[.int .i64 (t.frm : Int), .int .i64 (t.to : Int), .string t.text] 120))
  have K1 := hide (((Ke.of b0).trans hb).below' ((Below.refl _ _).alloc (Nat.le_refl _) (.cells #[.int .i64 (t.frm : Int), .int .i64 (t.to : Int), .string t.text] 120)))
  have S1 := hide (hS.bel ((Below.refl _ _).alloc (Nat.le_refl _) (.cells #[.int .i64 (t.frm : Int), .int .i64 (t.to : Int), .string t.text] 120)))
  have hlt := hb.size
  simp at hlt
  obtain ⟨c, f, z⟩ := unhide B1
  clear hp hb hS
  go_wp2_with fail
  obtain ⟨cF, fF, zF⟩ := (unhide B1).set3' rfl (.int .i64 (t.frm : Int)) (.int .i64 (t.to : Int)) (.string t.text)
  exact bodyPost_ret (v := nmA t) (by simp [results, Tryz.results97, go_sem, cF]) rfl (RuleX.done (fin_ok hA).1 ((unhide K1).setNew3 (Nat.le_refl _) _ _ _) ((unhide S1).set3 hN _ _ _) rfl)
set_option maxRecDepth 100000 in
set_option maxHeartbeats 2000000 in
theorem upName_X (h : SX w N rb sb m s k) (hs : s.size ≤ 1000) (hk : (tk (Pu.toks s 0) k).kind = 2) : Calls Tryz.prog 98 #[rp rb] w (RuleX PE N rb sb m s (.ok (leafN (tk (Pu.toks s 0) k), k + 1)) w) := by
  have hi := tk_in s k h.lt
  have ho := tk_ok s k h.lt
  have HC := name_X h hs 2 kUp (Or.inr ⟨rfl, rfl⟩)
  have hf1 := tok178
  go_enter Tryz.func98, Tryz.ntmps98
  go_wp2_with fail
  refine HC.mono ?_
  intro e w1 hp
  have hm : nameM (Pu.toks s 0) 2 k = .ok (tk (Pu.toks s 0) k, k + 1) := nameM_ok hk
  rw [hm] at hp
  by_cases h6 : (tk (Pu.toks s 0) (k + 1)).kind = 6
  · obtain ⟨rfl, hb⟩ := hp.bad (fin_at _ h6)
    exact ⟨rfl, RuleX.fail hb (fin_at _ h6)⟩
  obtain ⟨v, rfl, hb, hS, hR⟩ := hp.ok (fin_ok' _ h6)
  cases hR
  have K1 := hide (hb.below' ((Below.refl _ _).alloc (Nat.le_refl _) (.cells #[.int .i64 ((tk (Pu.toks s 0) k).frm : Int), .int .i64 ((tk (Pu.toks s 0) k).to : Int), .string (tk (Pu.toks s 0) k).text] 120)))
  have S1 := hide (hS.bel ((Below.refl _ _).alloc (Nat.le_refl _) (.cells #[.int .i64 ((tk (Pu.toks s 0) k).frm : Int), .int .i64 ((tk (Pu.toks s 0) k).to : Int), .string (tk (Pu.toks s 0) k).text] 120)))
  clear hp hb hS HC
  go_wp2_with fail
  go_ret
  refine RuleX.done rfl (unhide K1) (unhide S1) ?_
  rw [leaf_of 2 (by unfold leafK; simp [hk])]
  exact .up _ _ _ _ _ (ho.v2 hk)
set_option maxRecDepth 100000 in
set_option maxHeartbeats 2000000 in
theorem bareMaker_X (h : SX w N rb sb m s k) (hs : s.size ≤ 1000) (hk : (tk (Pu.toks s 0) k).kind = 2) : Calls Tryz.prog 107 #[rp rb] w (RuleX PP N rb sb m s (.ok (leafN (tk (Pu.toks s 0) k), k + 1)) w) := by
  have hi := tk_in s k h.lt
  have ho := tk_ok s k h.lt
  have HC := name_X h hs 2 kUp (Or.inr ⟨rfl, rfl⟩)
  have hf1 := tok178
  go_enter Tryz.func107, Tryz.ntmps107
  go_wp2_with fail
  refine HC.mono ?_
  intro e w1 hp
  have hm : nameM (Pu.toks s 0) 2 k = .ok (tk (Pu.toks s 0) k, k + 1) := nameM_ok hk
  rw [hm] at hp
  by_cases h6 : (tk (Pu.toks s 0) (k + 1)).kind = 6
  · obtain ⟨rfl, hb⟩ := hp.bad (fin_at _ h6)
    exact ⟨rfl, RuleX.fail hb (fin_at _ h6)⟩
  obtain ⟨v, rfl, hb, hS, hR⟩ := hp.ok (fin_ok' _ h6)
  cases hR
  have K1 := hide (hb.below' ((Below.refl _ _).alloc (Nat.le_refl _) (.cells #[.int .i64 ((tk (Pu.toks s 0) k).frm : Int), .int .i64 ((tk (Pu.toks s 0) k).to : Int), .string (tk (Pu.toks s 0) k).text] 120)))
  have S1 := hide (hS.bel ((Below.refl _ _).alloc (Nat.le_refl _) (.cells #[.int .i64 ((tk (Pu.toks s 0) k).frm : Int), .int .i64 ((tk (Pu.toks s 0) k).to : Int), .string (tk (Pu.toks s 0) k).text] 120)))
  clear hp hb hS HC
  go_wp2_with fail
  go_ret
  refine RuleX.done rfl (unhide K1) (unhide S1) ?_
  rw [leaf_of 2 (by unfold leafK; simp [hk])]
  exact .up _ _ [] _ _ _ _ none 0 (fun _ => .nilIface) (ho.v2 hk) hi.sp (Or.inl rfl) (fun i hi => by simp at hi)
set_option maxRecDepth 100000 in
set_option maxHeartbeats 2000000 in
theorem anything_X (h : SX w N rb sb m s k) (hs : s.size ≤ 1000) (hk : isT (tk (Pu.toks s 0) k) kAny = true) : Calls Tryz.prog 105 #[rp rb] w (RuleX PP N rb sb m s (.ok (leafN (tk (Pu.toks s 0) k), k + 1)) w) := by
  have hi := tk_in s k h.lt
  have ho := tk_ok s k h.lt
  have HC := take_X h hs kAny (by decide)
  have hf1 := tok178
  go_enter Tryz.func105, Tryz.ntmps105
  go_wp2_with fail
  refine HC.mono ?_
  intro e w1 hp
  have hm : wantM (Pu.toks s 0) kAny k = .ok ((), k + 1) := by unfold wantM; rw [if_pos hk]
  rw [hm] at hp
  by_cases h6 : (tk (Pu.toks s 0) (k + 1)).kind = 6
  · obtain ⟨rfl, hb⟩ := hp.bad (fin_at _ h6)
    exact ⟨rfl, RuleX.fail hb (fin_at _ h6)⟩
  obtain ⟨v, rfl, hb, hS, hR⟩ := hp.ok (fin_ok' _ h6)
  cases hR
  have K1 := hide hb
  have S1 := hide hS
  clear hp hb hS HC
  go_wp2_with fail
  go_ret
  refine RuleX.done rfl (unhide K1) (unhide S1) ?_
  have h5 := isT_kind hk
  rw [leaf_of 15 (by unfold leafK; rw [if_neg (by omega), if_neg (by omega), if_neg (by omega), if_neg (by omega), if_neg (by rw [isT_true, isT_false]; rw [isT_any] at hk; simp at hk; simp [hk.2]), if_pos hk])]
  exact .any _ _ _ _ _
set_option maxRecDepth 100000 in
set_option maxHeartbeats 2000000 in
theorem truth_X (h : SX w N rb sb m s k) (hs : s.size ≤ 1000) (hk : isT (tk (Pu.toks s 0) k) kTrue = true ∨ isT (tk (Pu.toks s 0) k) kFalse = true) : Calls Tryz.prog 102 #[rp rb] w (RuleX (Is (.agg #[.int .i64 ((tk (Pu.toks s 0) k).frm : Int), .int .i64 ((tk (Pu.toks s 0) k).to : Int), .bool ((kindB (tk (Pu.toks s 0) k)).toList == [116, 114, 117, 101])])) N rb sb m s (.ok ((), k + 1)) w) := by
  have hz := h.z
  have hN := h.ev.hN
  have hi := tk_in s k h.lt
  have b0 : Below w.heap.size w (w.alloc (.cells #[.int .i64 0, .int .i64 0, .bool false] 201)) := (Below.refl _ _).alloc (Nat.le_refl _) _
  have B0 := hide (Bx.new w #[.int .i64 0, .int .i64 0, .bool false] 201)
  have HC := next_X (h.bel b0) hs (by rcases hk with hk | hk <;> exact isT_7 hk)
  go_enter Tryz.func102, Tryz.ntmps102
  go_wp2_with fail
  refine HC.mono ?_
  intro e w1 hp
  by_cases h6 : (tk (Pu.toks s 0) (k + 1)).kind = 6
  · obtain ⟨rfl, hb⟩ := hp.bad (fin_at _ h6)
    exact ⟨rfl, RuleX.fail ((Ke.of b0).trans hb) (fin_at _ h6)⟩
  obtain ⟨v, rfl, hb, hS, hR⟩ := hp.ok (fin_ok' _ h6)
  cases hR
  have B1 := hide (((unhide B0).ke' hb (by omega)).alloc (.cells #[.int .i64 ((tk (Pu.toks s 0) k).frm : Int), .int .i64 ((tk (Pu.toks s 0) k).to : Int), .string (kindB (tk (Pu.toks s 0) k)), .string (tk (Pu.toks s 0) k).text] 108))
  have B2 := hide (Bx.new w1 #[.int .i64 ((tk (Pu.toks s 0) k).frm : Int), .int .i64 ((tk (Pu.toks s 0) k).to : Int), .string (kindB (tk (Pu.toks s 0) k)), .string (tk (Pu.toks s 0) k).text] 108)
  have K1 := hide (((Ke.of b0).trans hb).below' ((Below.refl _ _).alloc (Nat.le_refl _) (.cells #[.int .i64 ((tk (Pu.toks s 0) k).frm : Int), .int .i64 ((tk (Pu.toks s 0) k).to : Int), .string (kindB (tk (Pu.toks s 0) k)), .string (tk (Pu.toks s 0) k).text] 108)))
  have S1 := hide (hS.bel ((Below.refl _ _).alloc (Nat.le_refl _) (.cells #[.int .i64 ((tk (Pu.toks s 0) k).frm : Int), .int .i64 ((tk (Pu.toks s 0) k).to : Int), .string (kindB (tk (Pu.toks s 0) k)), .string (tk (Pu.toks s 0) k).text] 108)))
  have hlt := hb.size
  simp at hlt
  obtain ⟨c, f, z⟩ := unhide B1
  clear hp hb hS HC
  go_wp2_with fail
  obtain ⟨cF, fF, zF⟩ := (unhide B1).set3' rfl (.int .i64 ((tk (Pu.toks s 0) k).frm : Int)) (.int .i64 ((tk (Pu.toks s 0) k).to : Int)) (.bool ((kindB (tk (Pu.toks s 0) k)).toList == [116, 114, 117, 101]))
  exact bodyPost_ret (v := .agg #[.int .i64 ((tk (Pu.toks s 0) k).frm : Int), .int .i64 ((tk (Pu.toks s 0) k).to : Int), .bool ((kindB (tk (Pu.toks s 0) k)).toList == [116, 114, 117, 101])]) (by simp [results, Tryz.results102, go_sem, cF]) rfl (RuleX.done rfl ((unhide K1).setNew3 (Nat.le_refl _) _ _ _) ((unhide S1).set3 hN _ _ _) rfl)
set_option maxRecDepth 100000 in
set_option maxHeartbeats 2000000 in
theorem number_X (h : SX w N rb sb m s k) (hs : s.size ≤ 1000) (hk : (tk (Pu.toks s 0) k).kind = 4) : Calls Tryz.prog 100 #[rp rb] w (RuleX (Is (.agg #[.int .i64 ((tk (Pu.toks s 0) k).frm : Int), .int .i64 ((tk (Pu.toks s 0) k).to : Int), .int .i64 (numB (tk (Pu.toks s 0) k).text : Int)])) N rb sb m s (.ok ((), k + 1)) w) := by
  have hz := h.z
  have hN := h.ev.hN
  have hi := tk_in s k h.lt
  have b0 : Below w.heap.size w (w.alloc (.cells #[.int .i64 0, .int .i64 0, .int .i64 0] 198)) := (Below.refl _ _).alloc (Nat.le_refl _) _
  have B0 := hide (Bx.new w #[.int .i64 0, .int .i64 0, .int .i64 0] 198)
  have HC := takeNum_X (h.bel b0) hs hk
  go_enter Tryz.func100, Tryz.ntmps100
  go_wp2_with fail
  refine HC.mono ?_
  intro e w1 hp
  by_cases h6 : (tk (Pu.toks s 0) (k + 1)).kind = 6
  · obtain ⟨rfl, hb⟩ := hp.bad (fin_at _ h6)
    exact ⟨rfl, RuleX.fail ((Ke.of b0).trans hb) (fin_at _ h6)⟩
  obtain ⟨v, rfl, hb, hS, hR⟩ := hp.ok (fin_ok' _ h6)
  cases hR
  have B1 := hide (((unhide B0).ke' hb (by omega)).alloc (.cells #[.int .i64 ((tk (Pu.toks s 0) k).frm : Int), .int .i64 ((tk (Pu.toks s 0) k).to : Int), .string (kindB (tk (Pu.toks s 0) k)), .string (tk (Pu.toks s 0) k).text] 108))
  have B2 := hide (Bx.new w1 #[.int .i64 ((tk (Pu.toks s 0) k).frm : Int), .int .i64 ((tk (Pu.toks s 0) k).to : Int), .string (kindB (tk (Pu.toks s 0) k)), .string (tk (Pu.toks s 0) k).text] 108)
  have K1 := hide (((Ke.of b0).trans hb).below' ((Below.refl _ _).alloc (Nat.le_refl _) (.cells #[.int .i64 ((tk (Pu.toks s 0) k).frm : Int), .int .i64 ((tk (Pu.toks s 0) k).to : Int), .string (kindB (tk (Pu.toks s 0) k)), .string (tk (Pu.toks s 0) k).text] 108)))
  have S1 := hide (hS.bel ((Below.refl _ _).alloc (Nat.le_refl _) (.cells #[.int .i64 ((tk (Pu.toks s 0) k).frm : Int), .int .i64 ((tk (Pu.toks s 0) k).to : Int), .string (kindB (tk (Pu.toks s 0) k)), .string (tk (Pu.toks s 0) k).text] 108)))
  have hlt := hb.size
  simp at hlt
  obtain ⟨c, f, z⟩ := unhide B1
  clear hp hb hS HC
  obtain ⟨c2, f2, z2⟩ := unhide B2
  go_wp2_with fail
  refine (atoi_C _ (hi.v4 hk)).mono ?_
  rintro e w2 ⟨rfl, hb⟩
  have B1 := hide ((unhide B1).below hb)
  have B2 := hide ((unhide B2).below hb)
  have K1 := hide ((unhide K1).below' hb)
  have S1 := hide ((unhide S1).bel hb)
  clear c f z c2 f2 z2 hb
  obtain ⟨c, f, z⟩ := unhide B1
  obtain ⟨c2, f2, z2⟩ := unhide B2
  go_wp2_with fail
  obtain ⟨cF, fF, zF⟩ := (unhide B1).set3' rfl (.int .i64 ((tk (Pu.toks s 0) k).frm : Int)) (.int .i64 ((tk (Pu.toks s 0) k).to : Int)) (.int .i64 (numB (tk (Pu.toks s 0) k).text : Int))
  exact bodyPost_ret (v := .agg #[.int .i64 ((tk (Pu.toks s 0) k).frm : Int), .int .i64 ((tk (Pu.toks s 0) k).to : Int), .int .i64 (numB (tk (Pu.toks s 0) k).text : Int)]) (by simp [results, Tryz.results100, go_sem, cF]) rfl (RuleX.done rfl ((unhide K1).setNew3 (Nat.le_refl _) _ _ _) ((unhide S1).set3 hN _ _ _) rfl)
end
end Go.Proofs.YteneoapickhpdaaGreatDoor
namespace Go.Proofs.YteneoapickhpdaaGreatDoor
open Go Go.RowKit Go.ChangeMaps
section
variable {w : World} {N rb sb : Nat} {m : MV} {s : ByteArray} {k : Nat}
theorem leafK_4 {t : Pu.Tok} (h : isT t kTrue = true ∨ isT t kFalse = true) : leafK t = 4 := by
  have h5 : t.kind = 5 := by rcases h with h | h <;> exact isT_kind h
  unfold leafK
  rw [if_neg (by omega), if_neg (by omega), if_neg (by omega), if_neg (by omega), if_pos h]
theorem word_of {t : Pu.Tok} (h : isT t kTrue = true ∨ isT t kFalse = true) : t.text.toList = kTrue.toList ∨ t.text.toList = kFalse.toList := by
  rcases h with h | h
  · left; unfold isT at h; simp only [Bool.and_eq_true, beq_iff_eq] at h; exact h.2
  · right; unfold isT at h; simp only [Bool.and_eq_true, beq_iff_eq] at h; exact h.2
set_option maxRecDepth 100000 in
set_option maxHeartbeats 2000000 in
theorem atomLow_X (h : SX w N rb sb m s k) (hs : s.size ≤ 1000) (hk : (tk (Pu.toks s 0) k).kind = 1) (x : Nat) (hx : Bx w x #[rp rb]) : Calls Tryz.prog 96 #[.pointer (some ⟨x, 0, none⟩)] w (RuleX PE N rb sb m s (.ok (leafN (tk (Pu.toks s 0) k), k + 1)) w) := by
  have hi := tk_in s k h.lt
  have HC := lowName_X h hs
  obtain ⟨c0, f0, z0⟩ := hx
  go_enter Tryz.func96, Tryz.ntmps96
  go_wp2_with fail
  refine HC.mono ?_
  intro e w1 hp
  rw [nameM_ok hk] at hp
  by_cases h6 : (tk (Pu.toks s 0) (k + 1)).kind = 6
  · obtain ⟨rfl, hb⟩ := hp.bad (fin_at _ h6)
    exact ⟨rfl, RuleX.fail hb (fin_at _ h6)⟩
  obtain ⟨v, rfl, hb, hS, hR⟩ := hp.ok (fin_ok' _ h6)
  cases hR
  have K1 := hide hb
  have S1 := hide hS
  clear hp hb hS HC c0 f0 z0
  go_wp2_with fail
  go_ret
  refine RuleX.done rfl (unhide K1) (unhide S1) ?_
  rw [leaf_of 1 (by unfold leafK; simp [hk])]
  exact .low _ _ _ _ _ (hi.v1 hk)
set_option maxRecDepth 100000 in
set_option maxHeartbeats 2000000 in
theorem atomNum_X (h : SX w N rb sb m s k) (hs : s.size ≤ 1000) (hk : (tk (Pu.toks s 0) k).kind = 4) (x : Nat) (hx : Bx w x #[rp rb]) : Calls Tryz.prog 99 #[.pointer (some ⟨x, 0, none⟩)] w (RuleX PE N rb sb m s (.ok (leafN (tk (Pu.toks s 0) k), k + 1)) w) := by
  have hi := tk_in s k h.lt
  have HC := number_X h hs hk
  obtain ⟨c0, f0, z0⟩ := hx
  go_enter Tryz.func99, Tryz.ntmps99
  go_wp2_with fail
  refine HC.mono ?_
  intro e w1 hp
  by_cases h6 : (tk (Pu.toks s 0) (k + 1)).kind = 6
  · obtain ⟨rfl, hb⟩ := hp.bad (fin_at _ h6)
    exact ⟨rfl, RuleX.fail hb (fin_at _ h6)⟩
  obtain ⟨v, rfl, hb, hS, hR⟩ := hp.ok (fin_ok' _ h6)
  cases hR
  have K1 := hide hb
  have S1 := hide hS
  clear hp hb hS HC c0 f0 z0
  go_wp2_with fail
  go_ret
  refine RuleX.done rfl (unhide K1) (unhide S1) ?_
  rw [leaf_of 3 (by unfold leafK; simp [hk]), show leafNum (tk (Pu.toks s 0) k) = numB (tk (Pu.toks s 0) k).text by unfold leafNum; simp [hk]]
  exact .num _ _ _ _ _
set_option maxRecDepth 100000 in
set_option maxHeartbeats 2000000 in
theorem atomWord3_X (h : SX w N rb sb m s k) (hs : s.size ≤ 1000) (hk : isT (tk (Pu.toks s 0) k) kTrue = true ∨ isT (tk (Pu.toks s 0) k) kFalse = true) (x : Nat) (hx : Bx w x #[rp rb]) : Calls Tryz.prog 101 #[.pointer (some ⟨x, 0, none⟩)] w (RuleX PE N rb sb m s (.ok (leafN (tk (Pu.toks s 0) k), k + 1)) w) := by
  have hi := tk_in s k h.lt
  have HC := truth_X h hs hk
  obtain ⟨c0, f0, z0⟩ := hx
  go_enter Tryz.func101, Tryz.ntmps101
  go_wp2_with fail
  refine HC.mono ?_
  intro e w1 hp
  by_cases h6 : (tk (Pu.toks s 0) (k + 1)).kind = 6
  · obtain ⟨rfl, hb⟩ := hp.bad (fin_at _ h6)
    exact ⟨rfl, RuleX.fail hb (fin_at _ h6)⟩
  obtain ⟨v, rfl, hb, hS, hR⟩ := hp.ok (fin_ok' _ h6)
  cases hR
  have K1 := hide hb
  have S1 := hide hS
  clear hp hb hS HC c0 f0 z0
  go_wp2_with fail
  go_ret
  refine RuleX.done rfl (unhide K1) (unhide S1) ?_
  rw [leaf_of 4 (leafK_4 hk), kindB_5 (by rcases hk with hk | hk <;> exact isT_kind hk)]
  exact .word _ _ _ _ _ (word_of hk)
set_option maxRecDepth 100000 in
set_option maxHeartbeats 2000000 in
theorem atomWord4_X (h : SX w N rb sb m s k) (hs : s.size ≤ 1000) (hk : isT (tk (Pu.toks s 0) k) kTrue = true ∨ isT (tk (Pu.toks s 0) k) kFalse = true) (x : Nat) (hx : Bx w x #[rp rb]) : Calls Tryz.prog 103 #[.pointer (some ⟨x, 0, none⟩)] w (RuleX PE N rb sb m s (.ok (leafN (tk (Pu.toks s 0) k), k + 1)) w) := by
  have hi := tk_in s k h.lt
  have HC := truth_X h hs hk
  obtain ⟨c0, f0, z0⟩ := hx
  go_enter Tryz.func103, Tryz.ntmps103
  go_wp2_with fail
  refine HC.mono ?_
  intro e w1 hp
  by_cases h6 : (tk (Pu.toks s 0) (k + 1)).kind = 6
  · obtain ⟨rfl, hb⟩ := hp.bad (fin_at _ h6)
    exact ⟨rfl, RuleX.fail hb (fin_at _ h6)⟩
  obtain ⟨v, rfl, hb, hS, hR⟩ := hp.ok (fin_ok' _ h6)
  cases hR
  have K1 := hide hb
  have S1 := hide hS
  clear hp hb hS HC c0 f0 z0
  go_wp2_with fail
  go_ret
  refine RuleX.done rfl (unhide K1) (unhide S1) ?_
  rw [leaf_of 4 (leafK_4 hk), kindB_5 (by rcases hk with hk | hk <;> exact isT_kind hk)]
  exact .word _ _ _ _ _ (word_of hk)
set_option maxRecDepth 100000 in
set_option maxHeartbeats 2000000 in
theorem plainLow_X (h : SX w N rb sb m s k) (hs : s.size ≤ 1000) (hk : (tk (Pu.toks s 0) k).kind = 1) (x : Nat) (hx : Bx w x #[rp rb]) : Calls Tryz.prog 106 #[.pointer (some ⟨x, 0, none⟩)] w (RuleX PP N rb sb m s (.ok (leafN (tk (Pu.toks s 0) k), k + 1)) w) := by
  have hi := tk_in s k h.lt
  have HC := lowName_X h hs
  obtain ⟨c0, f0, z0⟩ := hx
  go_enter Tryz.func106, Tryz.ntmps106
  go_wp2_with fail
  refine HC.mono ?_
  intro e w1 hp
  rw [nameM_ok hk] at hp
  by_cases h6 : (tk (Pu.toks s 0) (k + 1)).kind = 6
  · obtain ⟨rfl, hb⟩ := hp.bad (fin_at _ h6)
    exact ⟨rfl, RuleX.fail hb (fin_at _ h6)⟩
  obtain ⟨v, rfl, hb, hS, hR⟩ := hp.ok (fin_ok' _ h6)
  cases hR
  have K1 := hide hb
  have S1 := hide hS
  clear hp hb hS HC c0 f0 z0
  go_wp2_with fail
  go_ret
  refine RuleX.done rfl (unhide K1) (unhide S1) ?_
  rw [leaf_of 1 (by unfold leafK; simp [hk])]
  exact .low _ _ _ _ _ (hi.v1 hk)
set_option maxRecDepth 100000 in
set_option maxHeartbeats 2000000 in
theorem plainNum_X (h : SX w N rb sb m s k) (hs : s.size ≤ 1000) (hk : (tk (Pu.toks s 0) k).kind = 4) (x : Nat) (hx : Bx w x #[rp rb]) : Calls Tryz.prog 108 #[.pointer (some ⟨x, 0, none⟩)] w (RuleX PP N rb sb m s (.ok (leafN (tk (Pu.toks s 0) k), k + 1)) w) := by
  have hi := tk_in s k h.lt
  have HC := number_X h hs hk
  obtain ⟨c0, f0, z0⟩ := hx
  go_enter Tryz.func108, Tryz.ntmps108
  go_wp2_with fail
  refine HC.mono ?_
  intro e w1 hp
  by_cases h6 : (tk (Pu.toks s 0) (k + 1)).kind = 6
  · obtain ⟨rfl, hb⟩ := hp.bad (fin_at _ h6)
    exact ⟨rfl, RuleX.fail hb (fin_at _ h6)⟩
  obtain ⟨v, rfl, hb, hS, hR⟩ := hp.ok (fin_ok' _ h6)
  cases hR
  have K1 := hide hb
  have S1 := hide hS
  clear hp hb hS HC c0 f0 z0
  go_wp2_with fail
  go_ret
  refine RuleX.done rfl (unhide K1) (unhide S1) ?_
  rw [leaf_of 3 (by unfold leafK; simp [hk]), show leafNum (tk (Pu.toks s 0) k) = numB (tk (Pu.toks s 0) k).text by unfold leafNum; simp [hk]]
  exact .num _ _ _ _ _
set_option maxRecDepth 100000 in
set_option maxHeartbeats 2000000 in
theorem plainWord3_X (h : SX w N rb sb m s k) (hs : s.size ≤ 1000) (hk : isT (tk (Pu.toks s 0) k) kTrue = true ∨ isT (tk (Pu.toks s 0) k) kFalse = true) (x : Nat) (hx : Bx w x #[rp rb]) : Calls Tryz.prog 109 #[.pointer (some ⟨x, 0, none⟩)] w (RuleX PP N rb sb m s (.ok (leafN (tk (Pu.toks s 0) k), k + 1)) w) := by
  have hi := tk_in s k h.lt
  have HC := truth_X h hs hk
  obtain ⟨c0, f0, z0⟩ := hx
  go_enter Tryz.func109, Tryz.ntmps109
  go_wp2_with fail
  refine HC.mono ?_
  intro e w1 hp
  by_cases h6 : (tk (Pu.toks s 0) (k + 1)).kind = 6
  · obtain ⟨rfl, hb⟩ := hp.bad (fin_at _ h6)
    exact ⟨rfl, RuleX.fail hb (fin_at _ h6)⟩
  obtain ⟨v, rfl, hb, hS, hR⟩ := hp.ok (fin_ok' _ h6)
  cases hR
  have K1 := hide hb
  have S1 := hide hS
  clear hp hb hS HC c0 f0 z0
  go_wp2_with fail
  go_ret
  refine RuleX.done rfl (unhide K1) (unhide S1) ?_
  rw [leaf_of 4 (leafK_4 hk), kindB_5 (by rcases hk with hk | hk <;> exact isT_kind hk)]
  exact .word _ _ _ _ _ (word_of hk)
set_option maxRecDepth 100000 in
set_option maxHeartbeats 2000000 in
theorem plainWord4_X (h : SX w N rb sb m s k) (hs : s.size ≤ 1000) (hk : isT (tk (Pu.toks s 0) k) kTrue = true ∨ isT (tk (Pu.toks s 0) k) kFalse = true) (x : Nat) (hx : Bx w x #[rp rb]) : Calls Tryz.prog 110 #[.pointer (some ⟨x, 0, none⟩)] w (RuleX PP N rb sb m s (.ok (leafN (tk (Pu.toks s 0) k), k + 1)) w) := by
  have hi := tk_in s k h.lt
  have HC := truth_X h hs hk
  obtain ⟨c0, f0, z0⟩ := hx
  go_enter Tryz.func110, Tryz.ntmps110
  go_wp2_with fail
  refine HC.mono ?_
  intro e w1 hp
  by_cases h6 : (tk (Pu.toks s 0) (k + 1)).kind = 6
  · obtain ⟨rfl, hb⟩ := hp.bad (fin_at _ h6)
    exact ⟨rfl, RuleX.fail hb (fin_at _ h6)⟩
  obtain ⟨v, rfl, hb, hS, hR⟩ := hp.ok (fin_ok' _ h6)
  cases hR
  have K1 := hide hb
  have S1 := hide hS
  clear hp hb hS HC c0 f0 z0
  go_wp2_with fail
  go_ret
  refine RuleX.done rfl (unhide K1) (unhide S1) ?_
  rw [leaf_of 4 (leafK_4 hk), kindB_5 (by rcases hk with hk | hk <;> exact isT_kind hk)]
  exact .word _ _ _ _ _ (word_of hk)
end
end Go.Proofs.YteneoapickhpdaaGreatDoor
namespace Go.Proofs.YteneoapickhpdaaGreatDoor
open Go Go.RowKit Go.ChangeMaps
section
variable {T : List Pu.Tok}
theorem begins_6' {t : Pu.Tok} (h : t.kind = 6) (sort : Nat) : beginsB t sort = false := by
  have h0 : leafK t = 0 := by unfold leafK; simp [h, isT_6 h]
  unfold beginsB
  rw [isT_6 h, h0]
  repeat' split
  all_goals rfl
theorem stall_small' (p q : M Nd) (sort : Nat) : Stall T (smallM T p q sort) := fun k h => by unfold smallM; rw [begins_6' h]; rfl
theorem stall_rest' (p q : M Nd) (sort f : Nat) (a : Nd) : Stall T (restM T p q sort f a) := fun k h => by
  unfold restM
  rw [isT_6 h, isT_6 h]
  rw [if_neg (by simp), if_neg (by simp)]
  exact stall_close T _ k h
theorem stall_headF' (sm : M Nd) (sort : Nat) : ∀ f x, Stall T (headF T sm sort f x)
  | 0, x => fun k h => fin_at _ h
  | f + 1, x => fun k h => by unfold headF; rw [begins_6' h]; exact fin_at _ h
theorem stall_headM {sm : M Nd} {sort : Nat} (hs : Stall T sm) : Stall T (headM T sm sort) := fun k h => by
  unfold headM
  rw [if_neg (by simp [h])]
  exact hs k h
theorem stall_pat : ∀ n, Stall T (patM T n)
  | 0 => fun k h => rfl
  | n + 1 => stall_headM (stall_small' _ _ _)
theorem stall_group {p q : M Nd} (hp : Stall T p) (sort f : Nat) : Stall T (groupM T p q sort f) := fun k h => by
  unfold groupM
  rw [isT_6 h, if_neg (by simp)]
  exact fin_bnd_err (hp k h) fun a => stall_rest' _ _ _ _ a
theorem stall_callF (sm : M Nd) (fr : Nat) : ∀ f x, Stall T (callF T sm fr f x)
  | 0, x => fun k h => fin_at _ h
  | f + 1, x => fun k h => by unfold callF; rw [begins_6' h]; exact fin_at _ h
theorem stall_prodF (sm : M Nd) (fr : Nat) : ∀ f x, Stall T (prodF T sm fr f x)
  | 0, x => fun k h => fin_at _ h
  | f + 1, x => fun k h => by unfold prodF; rw [isT_6 h]; exact fin_at _ h
theorem stall_sumF (sm : M Nd) (fr : Nat) : ∀ f x, Stall T (sumF T sm fr f x)
  | 0, x => fun k h => fin_at _ h
  | f + 1, x => fun k h => by unfold sumF; rw [isT_6 h, isT_6 h, if_neg (by simp)]; exact fin_at _ h
theorem stall_call {sm : M Nd} (hs : Stall T sm) : Stall T (callM T sm) := fun k h => fin_bnd_err (hs k h) fun a => stall_callF _ _ _ a
theorem stall_prod {sm : M Nd} (hs : Stall T sm) : Stall T (prodM T sm) := fun k h => fin_bnd_err (hs k h) fun a => stall_prodF _ _ _ a
theorem stall_sum {sm : M Nd} (hs : Stall T sm) : Stall T (sumM T sm) := fun k h => fin_bnd_err (hs k h) fun a => stall_sumF _ _ _ a
def lessR (sum : M Nd) (fr : Nat) (x : Nd) : M Nd := fun k1 => if isT (tk T k1) kLess = true then bnd sum (fun y k' => .ok (.mk 7 kLess 0 [x, y] fr (lastK T k') fr, k')) (k1 + 1) else .ok (x, k1)
theorem stall_lessR (sum : M Nd) (fr : Nat) (x : Nd) : Stall T (lessR (T := T) sum fr x) := fun k h => by unfold lessR; rw [isT_6 h]; exact fin_at _ h
theorem less_eq (sum : M Nd) (k : Nat) : lessM T sum k = bnd sum (lessR (T := T) sum (tk T k).frm) k := rfl
theorem stall_less {sum : M Nd} (hs : Stall T sum) : Stall T (lessM T sum) := fun k h => fin_bnd_err (hs k h) fun a => stall_lessR _ _ a
theorem stall_expr : ∀ n, Stall T (exprM T n)
  | 0 => fun k h => rfl
  | n + 1 => fun k h => by
    unfold exprM
    rw [isT_6 h, isT_6 h, isT_6 h, isT_6 h]
    exact stall_less (stall_sum (stall_prod (stall_call (stall_small' _ _ _)))) k h
theorem stall_fun (e : M Nd) : Stall T (funM T e) := fun k h => by
  unfold funM bnd
  rw [show wantM T kFun k = .error (flOf (tk T k)) by unfold wantM; rw [isT_6 h]; rfl]
  rfl
/-- A token that was seen is passed. -/
def passM : M Unit := fun k => .ok ((), k + 1)
theorem small_opn {p q : M Nd} {sort k : Nat} (h : isT (tk T k) kOpn = true) : smallM T p q sort k = bnd (wantM T kOpn) (fun _ => groupM T p q sort (tk T k).frm) k := by
  have h' : isT (tk T k) kOpen = true := h
  unfold smallM bnd wantM
  rw [if_pos (by unfold beginsB; simp [h']), if_pos h', if_pos h]
theorem group_unit {p q : M Nd} {sort f k : Nat} (h1 : sort ≠ 1) (h : isT (tk T k) kClose = true) : groupM T p q sort f k = bnd passM (fun _ j => .ok (.mk 5 kNo 0 [] f (lastK T j) f, j)) k := by
  unfold groupM
  rw [if_pos ⟨h1, h⟩]
  rfl
theorem group_part {p q : M Nd} {sort f k : Nat} (h : isT (tk T k) kClose = false) : groupM T p q sort f k = bnd p (restM T p q sort f) k := by
  unfold groupM
  rw [if_neg (by simp [h])]
theorem rest_comma' {p q : M Nd} {sort f : Nat} {a : Nd} {k : Nat} (h : isT (tk T k) kComma = true) : restM T p q sort f a k = bnd passM (fun _ => bnd p fun b => bnd (wantM T kClose) fun _ j => .ok (.mk 6 kNo 0 [a, b] f (lastK T j) f, j)) k := by unfold restM; rw [if_pos h]; rfl
theorem rest_colon' {p q : M Nd} {f : Nat} {a : Nd} {k : Nat} (h0 : isT (tk T k) kComma = false) (h : isT (tk T k) kColon = true) : restM T p q 3 f a k = bnd passM (fun _ => bnd q fun b => bnd (wantM T kClose) fun _ j => .ok (.mk 14 kNo 0 [a, b] f (lastK T j) f, j)) k := by unfold restM; rw [if_neg (by simp [h0]), if_pos ⟨rfl, h⟩]; rfl
theorem rest_close' {p q : M Nd} {sort f : Nat} {a : Nd} {k : Nat} (h0 : isT (tk T k) kComma = false) (h : sort = 3 → isT (tk T k) kColon = false) : restM T p q sort f a k = bnd (wantM T kClose) (fun _ j => .ok (a, j)) k := by
  unfold restM
  rw [if_neg (by simp [h0]), if_neg (by rintro ⟨h1, h2⟩; rw [h h1] at h2; cases h2)]
  rfl
end
end Go.Proofs.YteneoapickhpdaaGreatDoor
namespace Go.Proofs.YteneoapickhpdaaGreatDoor
open Go Go.RowKit Go.ChangeMaps
section
variable {w : World} {N rb sb : Nat} {m : MV} {s : ByteArray} {k : Nat}
set_option maxRecDepth 100000 in
set_option maxHeartbeats 2000000 in
theorem patternGroup_X {n : Nat} (hs : s.size ≤ 1000) (IH : PatC s n) (h : SX w N rb sb m s k) (hn : (Pu.toks s 0).length ≤ k + 1 + n) (ho : isT (tk (Pu.toks s 0) k) kOpn = true) :
    Calls Tryz.prog 111 #[rp rb] w (RuleX PP N rb sb m s (smallM (Pu.toks s 0) (patM (Pu.toks s 0) n) (wrongM (Pu.toks s 0)) 2 k) w) := by
  have hf1 := tok178
  have hf2 := spn175
  have hnot : ∀ (x : Bool) (w : World), (Op.unary .not (.bool x)).run Tryz.prog w = .ok (.bool (!x)) w := fun _ _ => rfl
  have HE0 := small_opn (p := (patM (Pu.toks s 0) n)) (q := (wrongM (Pu.toks s 0))) (sort := 2) ho
  have hz := h.z
  have S1 := hide h
  have K2 := hide (Ke.refl rb w)
  have E3 := hide HE0
  clear h HE0
  go_enter Tryz.func111, Tryz.ntmps111
  go_wp2_with fail
  refine (take_X (unhide S1) hs kOpn (by decide)).mono ?_
  intro e w1 hp
  cases hA : fin (Pu.toks s 0) (wantM (Pu.toks s 0) kOpn k) with
  | error f' =>
    obtain ⟨rfl, hb⟩ := hp.bad hA
    exact ⟨rfl, RuleX.stop (unhide E3) hA (fun a => stall_group (stall_pat _) _ _) ((unhide K2).trans hb)⟩
  | ok r' =>
  obtain ⟨_u1, k1⟩ := r'
  obtain ⟨v1, rfl, hb, hS, hR⟩ := hp.ok hA
  have S4 := hide hS
  have K5 := hide ((unhide K2).trans hb)
  have E6 := hide ((unhide E3).trans (fin_bnd_ok hA))
  have qw1 := (fin_ok hA).1
  have zw1 := hb.size
  try simp at zw1
  cases hR
  clear hp hb hS hA S1 K2 E3
  have ek1 := want_mono _ _ _ _ qw1
  subst ek1
  go_wp2_with fail
  by_cases hc : isT (tk (Pu.toks s 0) (k + 1)) kClose = true
  · have EM9 := hide ((unhide E6).trans (group_unit (p := (patM (Pu.toks s 0) n)) (q := (wrongM (Pu.toks s 0))) (by decide) hc))
    refine (took_Y (unhide S4) hs kClose (by decide) hc).mono ?_
    intro e w2 hp
    cases hA : fin (Pu.toks s 0) (passM (k + 1)) with
    | error f' =>
      obtain ⟨rfl, hb⟩ := hp.bad hA
      exact ⟨rfl, RuleX.stop (unhide EM9) hA (fun a => stall_ok _) ((unhide K5).trans hb)⟩
    | ok r' =>
    obtain ⟨_u2, k2⟩ := r'
    obtain ⟨v2, rfl, hb, hS, hR⟩ := hp.ok hA
    have S7 := hide hS
    have K8 := hide ((unhide K5).trans hb)
    have E9 := hide ((unhide EM9).trans (fin_bnd_ok hA))
    have qw2 := (fin_ok hA).1
    have zw2 := hb.size
    try simp at zw2
    cases hR
    clear hp hb hS hA S4 K5 EM9
    go_wp2_with fail
    refine (since_X (unhide S7) _).mono ?_
    rintro e w3 ⟨rfl, hb⟩
    have S10 := hide ((unhide S7).bel hb)
    have K11 := hide ((unhide K8).below' hb)
    have zw3 := hb.size
    try simp at zw3
    clear hb S7 K8
    go_wp2_with fail
    go_ret
    exact RuleX.done (unhide E9) (unhide K11) (unhide S10) (.unit _ _ _ _ _)
  · have hc' : isT (tk (Pu.toks s 0) (k + 1)) kClose = false := by simpa using hc
    have EM9 := hide ((unhide E6).trans (group_part (p := (patM (Pu.toks s 0) n)) (q := (wrongM (Pu.toks s 0))) (sort := 2) hc'))
    refine (took_N (unhide S4) kClose (by decide) hc').mono ?_
    rintro e w' ⟨rfl, rfl⟩
    go_wp2_with fail
    refine (IH _ _ _ _ _ _ (unhide S4) (by omega)).mono ?_
    intro e w2 hp
    cases hA : fin (Pu.toks s 0) (patM (Pu.toks s 0) n (k + 1)) with
    | error f' =>
      obtain ⟨rfl, hb⟩ := hp.bad hA
      exact ⟨rfl, RuleX.stop (unhide EM9) hA (fun a => stall_rest' _ _ _ _ a) ((unhide K5).trans hb)⟩
    | ok r' =>
    obtain ⟨a, k2⟩ := r'
    obtain ⟨v2, rfl, hb, hS, hR⟩ := hp.ok hA
    have S7 := hide hS
    have K8 := hide ((unhide K5).trans hb)
    have E9 := hide ((unhide EM9).trans (fin_bnd_ok hA))
    have qw2 := (fin_ok hA).1
    have zw2 := hb.size
    try simp at zw2
    have V10 := hide hR
    obtain ⟨tv2, xv2, rfl⟩ := hR.iface
    clear hp hb hS hA S4 K5 EM9 hR
    have lt2 := pat_mono n _ _ _ qw2
    go_wp2_with fail
    by_cases hm : isT (tk (Pu.toks s 0) k2) kComma = true
    · have EM8 := hide ((unhide E9).trans (rest_comma' (p := (patM (Pu.toks s 0) n)) (q := (wrongM (Pu.toks s 0))) (sort := 2) hm))
      refine (took_Y (unhide S7) hs kComma (by decide) hm).mono ?_
      intro e w3 hp
      cases hA : fin (Pu.toks s 0) (passM k2) with
      | error f' =>
        obtain ⟨rfl, hb⟩ := hp.bad hA
        exact ⟨rfl, RuleX.stop (unhide EM8) hA (fun a => stall_bnd (stall_pat _) fun _ => stall_bnd (stall_want _ _) fun _ => stall_ok _) ((unhide K8).trans hb)⟩
      | ok r' =>
      obtain ⟨_u3, k3⟩ := r'
      obtain ⟨v3, rfl, hb, hS, hR⟩ := hp.ok hA
      have S11 := hide hS
      have K12 := hide ((unhide K8).trans hb)
      have E13 := hide ((unhide EM8).trans (fin_bnd_ok hA))
      have qw3 := (fin_ok hA).1
      have zw3 := hb.size
      try simp at zw3
      have V14 := hide ((unhide V10).ke hb (fun b p => by show b ≠ rb; have p' : w1.heap.size ≤ b := p; omega))
      clear V10
      cases hR
      clear hp hb hS hA S7 K8 EM8
      have ek3 : k3 = k2 + 1 := by unfold passM at qw3; cases qw3; rfl
      subst ek3
      go_wp2_with fail
      refine (IH _ _ _ _ _ _ (unhide S11) (by omega)).mono ?_
      intro e w4 hp
      cases hA : fin (Pu.toks s 0) (patM (Pu.toks s 0) n (k2 + 1)) with
      | error f' =>
        obtain ⟨rfl, hb⟩ := hp.bad hA
        exact ⟨rfl, RuleX.stop (unhide E13) hA (fun a => stall_bnd (stall_want _ _) fun _ => stall_ok _) ((unhide K12).trans hb)⟩
      | ok r' =>
      obtain ⟨b, k4⟩ := r'
      obtain ⟨v4, rfl, hb, hS, hR⟩ := hp.ok hA
      have S15 := hide hS
      have K16 := hide ((unhide K12).trans hb)
      have E17 := hide ((unhide E13).trans (fin_bnd_ok hA))
      have qw4 := (fin_ok hA).1
      have zw4 := hb.size
      try simp at zw4
      have V18 := hide ((unhide V14).ke hb (fun b p => by show b ≠ rb; have p' : w1.heap.size ≤ b := p; omega))
      clear V14
      have V19 := hide hR
      obtain ⟨tv4, xv4, rfl⟩ := hR.iface
      clear hp hb hS hA S11 K12 E13 hR
      go_wp2_with fail
      refine (take_X (unhide S15) hs kClose (by decide)).mono ?_
      intro e w5 hp
      cases hA : fin (Pu.toks s 0) (wantM (Pu.toks s 0) kClose k4) with
      | error f' =>
        obtain ⟨rfl, hb⟩ := hp.bad hA
        exact ⟨rfl, RuleX.stop (unhide E17) hA (fun a => stall_ok _) ((unhide K16).trans hb)⟩
      | ok r' =>
      obtain ⟨_u5, k5⟩ := r'
      obtain ⟨v5, rfl, hb, hS, hR⟩ := hp.ok hA
      have S20 := hide hS
      have K21 := hide ((unhide K16).trans hb)
      have E22 := hide ((unhide E17).trans (fin_bnd_ok hA))
      have qw5 := (fin_ok hA).1
      have zw5 := hb.size
      try simp at zw5
      have V23 := hide ((unhide V18).ke hb (fun b p => by show b ≠ rb; have p' : w1.heap.size ≤ b := p; omega))
      clear V18
      have V24 := hide ((unhide V19).ke hb (fun b p => by show b ≠ rb; have p' : w3.heap.size ≤ b := p; omega))
      clear V19
      cases hR
      clear hp hb hS hA S15 K16 E17
      go_wp2_with fail
      refine (since_X (unhide S20) _).mono ?_
      rintro e w6 ⟨rfl, hb⟩
      have S25 := hide ((unhide S20).bel hb)
      have K26 := hide ((unhide K21).below' hb)
      have zw6 := hb.size
      try simp at zw6
      have V27 := hide ((unhide V23).bel hb)
      clear V23
      have V28 := hide ((unhide V24).bel hb)
      clear V24
      clear hb S20 K21
      go_wp2_with fail
      go_ret
      exact RuleX.done (unhide E22) (unhide K26) (unhide S25) (.pr _ _ _ _ _ _ _ _ _ ((unhide V27).wide fun b p => by have p' : w1.heap.size ≤ b := p; show w.heap.size ≤ b; omega) ((unhide V28).wide fun b p => by have p' : w3.heap.size ≤ b := p; show w.heap.size ≤ b; omega))
    · have hm' : isT (tk (Pu.toks s 0) k2) kComma = false := by simpa using hm
      refine (took_N (unhide S7) kComma (by decide) hm').mono ?_
      rintro e w' ⟨rfl, rfl⟩
      go_wp2_with fail
      have EM8 := hide ((unhide E9).trans (rest_close' (p := (patM (Pu.toks s 0) n)) (q := (wrongM (Pu.toks s 0))) (sort := 2) hm' (fun h => by omega)))
      refine (take_X (unhide S7) hs kClose (by decide)).mono ?_
      intro e w5 hp
      cases hA : fin (Pu.toks s 0) (wantM (Pu.toks s 0) kClose k2) with
      | error f' =>
        obtain ⟨rfl, hb⟩ := hp.bad hA
        exact ⟨rfl, RuleX.stop (unhide EM8) hA (fun a => stall_ok _) ((unhide K8).trans hb)⟩
      | ok r' =>
      obtain ⟨_u5, k5⟩ := r'
      obtain ⟨v5, rfl, hb, hS, hR⟩ := hp.ok hA
      have S11 := hide hS
      have K12 := hide ((unhide K8).trans hb)
      have E13 := hide ((unhide EM8).trans (fin_bnd_ok hA))
      have qw5 := (fin_ok hA).1
      have zw5 := hb.size
      try simp at zw5
      have V14 := hide ((unhide V10).ke hb (fun b p => by show b ≠ rb; have p' : w1.heap.size ≤ b := p; omega))
      clear V10
      cases hR
      clear hp hb hS hA S7 K8 EM8
      go_wp2_with fail
      go_ret
      exact RuleX.done (unhide E13) (unhide K12) (unhide S11) ((unhide V14).wide fun b p => by have p' : w1.heap.size ≤ b := p; show w.heap.size ≤ b; omega)
end
end Go.Proofs.YteneoapickhpdaaGreatDoor
namespace Go.Proofs.YteneoapickhpdaaGreatDoor
open Go Go.RowKit Go.ChangeMaps
/-- What is said of an element's cells. -/
abbrev EQ (α : Type) := World → (Nat → Prop) → α → (Nat → Value) → Prop
/-- It stays where the blocks stay of which it speaks. -/
def Moves {α : Type} (Q : EQ α) : Prop := ∀ (w w' : World) (P P' : Nat → Prop) (a : α) (c : Nat → Value), Q w P a c → w.heap.size ≤ w'.heap.size → (∀ b, P b → b < w.heap.size → w'.heap[b]? = w.heap[b]?) → (∀ b, P b → b < w.heap.size → P' b) → Q w' P' a c
def flatC (cs : Nat → Nat → Value) (sz : Nat) : Nat → List Value
  | 0 => []
  | n + 1 => flatC cs sz n ++ (List.range sz).map (cs n)
theorem flatC_len (cs : Nat → Nat → Value) (sz n : Nat) : (flatC cs sz n).length = n * sz := by
  induction n with
  | zero => simp [flatC]
  | succ n ih => simp only [flatC, List.length_append, ih, List.length_map, List.length_range, Nat.succ_mul]
theorem flatC_at (cs : Nat → Nat → Value) (sz : Nat) : ∀ n i j, i < n → j < sz → (flatC cs sz n)[i * sz + j]? = some (cs i j) := by
  intro n
  induction n with
  | zero => intro i j h; omega
  | succ n ih =>
    intro i j hi hj
    simp only [flatC]
    by_cases h : i < n
    · have : i * sz + j < n * sz := by
        have : (i + 1) * sz ≤ n * sz := Nat.mul_le_mul_right _ h
        rw [Nat.succ_mul] at this
        omega
      rw [List.getElem?_append_left (by rw [flatC_len]; exact this)]
      exact ih i j h hj
    · have e : i = n := by omega
      subst e
      rw [List.getElem?_append_right (by rw [flatC_len]; omega), flatC_len]
      rw [show i * sz + j - i * sz = j by omega]
      simp [hj]
theorem flatC_congr {cs ds : Nat → Nat → Value} {sz : Nat} : ∀ n, (∀ i, i < n → cs i = ds i) → flatC cs sz n = flatC ds sz n
  | 0, _ => rfl
  | n + 1, h => by simp only [flatC]; rw [flatC_congr n (fun i hi => h i (by omega)), h n (by omega)]
/-- A row that the call owns, and what its elements are. -/
def RowO {α : Type} (Q : EQ α) (et : TypeId) (sz : Nat) (w : World) (base : Nat) (va : Option Addr) (vc : Nat) (L : List α) : Prop :=
  ∃ cs : Nat → Nat → Value, w.ownsRow base et sz (.slice va L.length vc) L.length (flatC cs sz L.length) ∧ ∀ i (h : i < L.length), Q w (fun b => base ≤ b ∧ b < w.heap.size ∧ (Value.slice va L.length vc).ownBlock ≠ some b) L[i] (cs i)
/-- A row, and what its elements are. -/
def RowV {α : Type} (Q : EQ α) (sz : Nat) (w : World) (P : Nat → Prop) (L : List α) (v : Value) : Prop :=
  ∃ (va : Option Addr) (vc : Nat) (cs : Nat → Nat → Value), v = .slice va L.length vc ∧ (L = [] ∨ ∃ g, va = some ⟨g, 0, none⟩ ∧ P g ∧ g < w.heap.size ∧ ∀ i, i < L.length → ∀ j, j < sz → w.cell? ⟨g, i * sz + j, none⟩ = some (cs i j)) ∧ ∀ i (h : i < L.length), Q w P L[i] (cs i)
section
variable {α : Type} {Q : EQ α} {et : TypeId} {sz : Nat} {w w' : World} {base : Nat} {va : Option Addr} {vc : Nat} {L : List α}
theorem RowO.nil (Q : EQ α) (et : TypeId) (sz : Nat) (w : World) (base : Nat) : RowO Q et sz w base none 0 [] := ⟨fun _ _ => .nilIface, World.ownsRow_nil _ _ _ _, fun i h => absurd h (by simp)⟩
theorem RowO.v (hQ : Moves Q) (h : RowO Q et sz w base va vc L) : RowV Q sz w (fun b => base ≤ b) L (.slice va L.length vc) := by
  obtain ⟨cs, ho, hr⟩ := h
  refine ⟨va, vc, cs, rfl, ?_, fun i hi => hQ _ _ _ _ _ _ (hr i hi) (Nat.le_refl _) (fun _ _ _ => rfl) fun b p _ => p.1⟩
  obtain ⟨h1, h2⟩ := ho
  rcases h2 with ⟨_, hz⟩ | ⟨q, cap, cur, hv, hg, hh, _, _, _, ht⟩
  · exact Or.inl (List.eq_nil_of_length_eq_zero hz)
  · injection hv with e1 e2 e3
    subst e1
    refine Or.inr ⟨q, rfl, hg, (Array.getElem?_eq_some_iff.1 hh).1, fun i hi j hj => ?_⟩
    have hlt : i * sz + j < L.length * sz := by
      have : (i + 1) * sz ≤ L.length * sz := Nat.mul_le_mul_right _ hi
      rw [Nat.succ_mul] at this
      omega
    rw [← flatC_at cs sz L.length i j hi hj, ← ht]
    simp only [World.cell?, hh]
    rw [List.getElem?_take_of_lt hlt]
    simp
theorem RowO.bel (hQ : Moves Q) (h : RowO Q et sz w base va vc L) (hb : Below w.heap.size w w') : RowO Q et sz w' base va vc L := by
  obtain ⟨cs, ho, hr⟩ := h
  exact ⟨cs, own_below ho hb, fun i hi => hQ _ _ _ _ _ _ (hr i hi) hb.size (fun b _ z => hb.block b z) fun b p _ => ⟨p.1, Nat.lt_of_lt_of_le p.2.1 hb.size, p.2.2⟩⟩
theorem RowO.ke {rb : Nat} (hQ : Moves Q) (h : RowO Q et sz w base va vc L) (hb : Ke rb w w') (hr : rb < base) : RowO Q et sz w' base va vc L := by
  obtain ⟨cs, ho, hP⟩ := h
  exact ⟨cs, own_ke ho hb hr, fun i hi => hQ _ _ _ _ _ _ (hP i hi) hb.size (fun b p z => hb.block b z (by have := p.1; omega)) fun b p _ => ⟨p.1, Nat.lt_of_lt_of_le p.2.1 hb.size, p.2.2⟩⟩
theorem RowO.block (h : RowO Q et sz w base va vc L) : ∀ b, (Value.slice va L.length vc).ownBlock = some b → base ≤ b ∧ b < w.heap.size := by
  obtain ⟨cs, ho, _⟩ := h
  exact own_block ho
/-- A row that was just laid, of one element. -/
theorem RowO.one {lo q : Nat} {a : α} {c : Nat → Value} (hQ : Moves Q) (hq : Q w (fun b => lo ≤ b) a c) (hlo : base ≤ lo) (hb : lo ≤ w.heap.size) (hs : 0 < sz) (C : Array Value) (hC : C = ((List.range sz).map c).toArray) (hqq : q = w.heap.size) : RowO Q et sz (w.alloc (.cells C et)) base (some ⟨q, 0, none⟩) 1 [a] := by
  subst hqq hC
  refine ⟨fun _ => c, ⟨by simp [flatC], Or.inr ⟨w.heap.size, 1, _, rfl, by omega, (MapKept.heap_alloc w _).1, by simp, by unfold maxLen; omega, by simp, by simp [flatC]; exact List.take_of_length_le (by simp)⟩⟩, fun i hi => ?_⟩
  have : i = 0 := by simpa using hi
  subst this
  refine hQ _ _ _ _ _ _ hq (by simp) (fun b _ z => Below.heap_alloc _ _ _ z) fun b p z => ⟨Nat.le_trans hlo p, by simp; omega, ?_⟩
  simp [Value.ownBlock]
  omega
/-- One element more; W: the world in which it is appended, w1: that in which it was read. -/
theorem RowO.push {w1 W w3 : World} {lo q3 c3 : Nat} {a : α} {c : Nat → Value} (hQ : Moves Q) {cs : Nat → Nat → Value} (hP : ∀ i (h : i < L.length), Q w1 (fun b => base ≤ b ∧ b < w1.heap.size ∧ (Value.slice va L.length vc).ownBlock ≠ some b) L[i] (cs i)) (hq : Q w1 (fun b => lo ≤ b) a c) (hbase : base ≤ lo) (hold : ∀ b, (Value.slice va L.length vc).ownBlock = some b → b < lo) (hW : Below w1.heap.size w1 W)
    (h3 : w3.ownsRow base et sz (.slice (some ⟨q3, 0, none⟩) (L.length + 1) c3) (L.length + 1) (flatC cs sz L.length ++ (List.range sz).map c))
    (hg : W.grownBy w3 (Value.slice va L.length vc).ownBlock) (hloc : (Value.slice (some ⟨q3, 0, none⟩) (L.length + 1) c3).ownBlock = (Value.slice va L.length vc).ownBlock ∨ (Value.slice (some ⟨q3, 0, none⟩) (L.length + 1) c3).ownBlock = some W.heap.size) :
    RowO Q et sz w3 base (some ⟨q3, 0, none⟩) c3 (L ++ [a]) := by
  have hlen : (L ++ [a]).length = L.length + 1 := by simp
  have hsz := hg.size
  have hbk : ∀ b, b < w1.heap.size → (Value.slice va L.length vc).ownBlock ≠ some b → w3.heap[b]? = w1.heap[b]? := fun b hb hn => (hg.block b (Nat.lt_of_lt_of_le hb hW.size) (fun e => hn e.symm)).trans (hW.block b hb)
  have hnew : ∀ b, b < w1.heap.size → (Value.slice va L.length vc).ownBlock ≠ some b → (Value.slice (some ⟨q3, 0, none⟩) (L.length + 1) c3).ownBlock ≠ some b := fun b hb hn e => by
    rcases hloc with g | g
    · exact hn (g ▸ e)
    · have q : some b = some W.heap.size := e.symm.trans g
      simp at q
      have := hW.size
      omega
  have hws := hW.size
  have hcs : ∀ i, i < L.length → (fun i => if i = L.length then c else cs i) i = cs i := fun i hi => if_neg (by omega)
  refine ⟨fun i => if i = L.length then c else cs i, ?_, fun i hi => ?_⟩
  · rw [hlen]
    show w3.ownsRow base et sz _ _ (flatC _ sz L.length ++ (List.range sz).map (if L.length = L.length then c else cs L.length))
    rw [if_pos rfl, flatC_congr (ds := cs) L.length hcs]
    exact h3
  · rw [hlen]
    by_cases hlt : i < L.length
    · rw [List.getElem_append_left hlt]
      show Q w3 _ L[i] (if i = L.length then c else cs i)
      rw [if_neg (by omega)]
      exact hQ _ _ _ _ _ _ (hP i hlt) (by omega) (fun b p z => hbk b p.2.1 p.2.2) fun b p z => ⟨p.1, by omega, hnew b p.2.1 p.2.2⟩
    · have hi' : i = L.length := by simp at hi; omega
      subst hi'
      have e1 : (L ++ [a])[L.length]'hi = a := by simp
      rw [e1]
      show Q w3 _ a (if L.length = L.length then c else cs L.length)
      rw [if_pos rfl]
      have hne : ∀ b, lo ≤ b → (Value.slice va L.length vc).ownBlock ≠ some b := fun b h1 e => by have := hold b e; omega
      exact hQ _ _ _ _ _ _ hq (by omega) (fun b p z => hbk b z (hne b p)) fun b p z => ⟨Nat.le_trans hbase p, by omega, hnew b z (hne b p)⟩
end
/-- An element of one cell. -/
def Q1 (R : World → (Nat → Prop) → Nd → Value → Prop) : EQ Nd := fun w P a c => R w P a (c 0)
theorem moves_pp : Moves (Q1 PP) := fun _ _ _ _ _ _ h h1 h2 h3 => PP.move h h1 h2 h3
theorem moves_pt : Moves (Q1 PT) := fun _ _ _ _ _ _ h h1 h2 h3 => PT.move h h1 h2 h3
section
variable {W w3 : World} {row : Option Nat} {N rb sb : Nat} {m : MV} {s : ByteArray} {k : Nat}
theorem SX.grown (hg : W.grownBy w3 row) (h : SX W N rb sb m s k) (hr : ∀ j, row = some j → N ≤ j) : SX w3 N rb sb m s k :=
  h.move hg.size fun b hb => hg.block b (Nat.lt_of_lt_of_le hb h.ev.hN) fun e => by have := hr b e.symm; omega
theorem look_tab {L : List (ByteArray × Value)} {b : Nat} {mt ft : TypeId} (h : MS Value.string W b L) (hm : Tryz.prog.underlying mt = some (.map 106 ft)) (hz : (zeroValue ft).run Tryz.prog W = .ok .nilFunc W) (x : ByteArray) :
    (Instr.lookup mt (.map (some b)) (.string x) true).run Tryz.prog W = .ok (tupOf (got x L) .nilFunc) W := by
  have := h.look (KL.str Tryz.underlying106) hm hz x trivial (fun _ _ => trivial) true
  rw [this]
  cases got x L <;> rfl
theorem got_no {x : ByteArray} : ∀ {L : List (ByteArray × Value)}, (∀ p ∈ L, p.1 ≠ x) → got x L = none
  | [], _ => rfl
  | p :: l, h => by
    unfold got
    rw [if_neg (h p (List.mem_cons_self ..))]
    exact got_no fun q hq => h q (List.mem_cons_of_mem _ hq)
end
end Go.Proofs.YteneoapickhpdaaGreatDoor
namespace Go.Proofs.YteneoapickhpdaaGreatDoor
open Go Go.RowKit Go.ChangeMaps
theorem begins_cases {t : Pu.Tok} (ho : TokOk t) {sort : Nat} (hs : sort = 2 ∨ sort = 3) (hb : beginsB t sort = true) : t.kind = 1 ∨ t.kind = 2 ∨ t.kind = 4 ∨ isT t kTrue = true ∨ isT t kFalse = true ∨ (sort = 2 ∧ isT t kAny = true) ∨ isT t kOpn = true := by
  by_cases h0 : isT t kOpn = true
  · simp [h0]
  have h0' : isT t kOpen = false := by simpa using h0
  unfold beginsB at hb
  rw [h0'] at hb
  unfold leafK at hb
  by_cases h1 : t.kind = 1
  · exact Or.inl h1
  by_cases h2 : t.kind = 2
  · exact Or.inr (Or.inl h2)
  by_cases h4 : t.kind = 4
  · exact Or.inr (Or.inr (Or.inl h4))
  by_cases h5 : isT t kTrue = true
  · simp [h5]
  by_cases h6 : isT t kFalse = true
  · simp [h6]
  by_cases h7 : isT t kAny = true
  · rcases hs with rfl | rfl
    · simp [h7]
    · exfalso
      by_cases h3 : t.kind = 3
      · simp [h1, h2, h3, h4, h5, h6, h7] at hb
      · simp [h1, h2, h3, h4, h5, h6, h7] at hb
  · exfalso
    rcases hs with rfl | rfl
    · by_cases h3 : t.kind = 3
      · simp [h1, h2, h3, h4, h5, h6, h7] at hb
      · simp [h1, h2, h3, h4, h5, h6, h7] at hb
    · by_cases h3 : t.kind = 3
      · simp [h1, h2, h3, h4, h5, h6, h7] at hb
      · simp [h1, h2, h3, h4, h5, h6, h7] at hb
theorem begins_none {t : Pu.Tok} {sort : Nat} (hs : sort = 2 ∨ sort = 3) (hb : beginsB t sort = false) : t.kind ≠ 1 ∧ t.kind ≠ 2 ∧ t.kind ≠ 4 ∧ isT t kTrue = false ∧ isT t kFalse = false ∧ (sort = 2 → isT t kAny = false) ∧ isT t kOpn = false := by
  unfold beginsB at hb
  rw [Bool.or_eq_false_iff] at hb
  obtain ⟨h0, hb⟩ := hb
  have key : ∀ c, c = 1 ∨ c = 2 ∨ c = 3 ∨ c = 4 → leafK t ≠ c := by
    intro c hc e
    rw [e] at hb
    rcases hs with rfl | rfl <;> rcases hc with rfl | rfl | rfl | rfl <;> simp at hb
  refine ⟨fun e => key 1 (by simp) (by unfold leafK; simp [e]), fun e => key 2 (by simp) (by unfold leafK; simp [e]), fun e => key 3 (by simp) (by unfold leafK; simp [e]), ?_, ?_, ?_, h0⟩
  · cases h : isT t kTrue with
    | false => rfl
    | true => exact absurd (leafK_4 (Or.inl h)) (key 4 (by simp))
  · cases h : isT t kFalse with
    | false => rfl
    | true => exact absurd (leafK_4 (Or.inr h)) (key 4 (by simp))
  · rintro rfl
    cases h : isT t kAny with
    | false => rfl
    | true =>
      have h5 := isT_kind h
      have : leafK t = 15 := by
        unfold leafK
        rw [if_neg (by omega), if_neg (by omega), if_neg (by omega), if_neg (by omega), if_neg (by rw [isT_true, isT_false]; rw [isT_any] at h; simp at h; simp [h.2]), if_pos h]
      rw [this] at hb
      simp at hb
theorem small_leafX {T : List Pu.Tok} {p q : M Nd} {sort k : Nat} (hb : beginsB (tk T k) sort = true) (ho : isT (tk T k) kOpn = false) : smallM T p q sort k = .ok (leafN (tk T k), k + 1) := by
  have ho' : isT (tk T k) kOpen = false := ho
  unfold smallM
  rw [if_pos hb, if_neg (by simp [ho'])]
theorem tlInj {a b : ByteArray} (h : a.toList = b.toList) : a = b := by
  rw [ByteArray.toList_eq, ByteArray.toList_eq] at h
  exact ByteArray.ext (Array.ext' h)
theorem kindB_T {t : Pu.Tok} {c : ByteArray} (h : isT t c = true) : kindB t = c := by
  rw [kindB_5 (isT_kind h)]
  unfold isT at h
  simp only [Bool.and_eq_true, beq_iff_eq] at h
  exact tlInj h.2
theorem isT_ne {t : Pu.Tok} {c : ByteArray} (h5 : t.kind = 5) (h : isT t c = false) : c ≠ t.text := fun e => by
  subst e
  unfold isT at h
  simp [h5] at h
theorem kd_open {t : Pu.Tok} (h : t.kind ≠ 5) (c : ByteArray) : isT t c = false := by unfold isT; simp [h]
theorem isT_two {t : Pu.Tok} {c d : ByteArray} (h : isT t c = true) (hn : c.toList ≠ d.toList) : isT t d = false := by
  unfold isT at h ⊢
  simp only [Bool.and_eq_true, beq_iff_eq] at h
  simp [h.1, h.2, hn]
section
variable {w : World} {N rb sb : Nat} {m : MV} {s : ByteArray} {k n : Nat}
theorem plain_yes (hs : s.size ≤ 1000) (IH : PatC s n) (h : SX w N rb sb m s k) (hn : (Pu.toks s 0).length ≤ k + 1 + n) (hb : beginsB (tk (Pu.toks s 0) k) 2 = true) {x : Nat} (hx : Bx w x #[rp rb]) :
    (∃ f, got (kindB (tk (Pu.toks s 0) k)) (plainL rb x) = some (mth f rb) ∧ (∀ args w, (callFunc f args).run Tryz.prog w = .ok (.enter f args) w) ∧ ∀ W, Below w.heap.size w W → Calls Tryz.prog f #[rp rb] W (RuleX PP N rb sb m s (smallM (Pu.toks s 0) (patM (Pu.toks s 0) n) (wrongM (Pu.toks s 0)) 2 k) W)) ∨
    (∃ f, got (kindB (tk (Pu.toks s 0) k)) (plainL rb x) = some (clo f x) ∧ (∀ args w, (callFunc f args).run Tryz.prog w = .ok (.enter f args) w) ∧ ∀ W, Below w.heap.size w W → Calls Tryz.prog f #[.pointer (some ⟨x, 0, none⟩)] W (RuleX PP N rb sb m s (smallM (Pu.toks s 0) (patM (Pu.toks s 0) n) (wrongM (Pu.toks s 0)) 2 k) W)) := by
  have ho := tk_ok s k h.lt
  rcases begins_cases ho (by decide) hb with hk | hk | hk | hk | hk | ⟨h9, hk⟩ | hk
  · refine Or.inr ⟨106, by rw [kindB_1 hk]; rfl, fun _ _ => by kernel_rfl, ?_⟩
    rw [small_leafX hb (kd_open (by omega) _)]
    exact fun W hW => plainLow_X (h.bel hW) hs hk x (hx.below hW)
  · refine Or.inl ⟨107, by rw [kindB_2 hk]; rfl, fun _ _ => by kernel_rfl, ?_⟩
    rw [small_leafX hb (kd_open (by omega) _)]
    exact fun W hW => bareMaker_X (h.bel hW) hs hk
  · refine Or.inr ⟨108, by rw [kindB_4 hk]; rfl, fun _ _ => by kernel_rfl, ?_⟩
    rw [small_leafX hb (kd_open (by omega) _)]
    exact fun W hW => plainNum_X (h.bel hW) hs hk x (hx.below hW)
  · refine Or.inr ⟨109, by rw [kindB_T hk]; rfl, fun _ _ => by kernel_rfl, ?_⟩
    rw [small_leafX hb (isT_two hk (by simp [ByteArray.toList_eq]))]
    exact fun W hW => plainWord3_X (h.bel hW) hs (Or.inl hk) x (hx.below hW)
  · refine Or.inr ⟨110, by rw [kindB_T hk]; rfl, fun _ _ => by kernel_rfl, ?_⟩
    rw [small_leafX hb (isT_two hk (by simp [ByteArray.toList_eq]))]
    exact fun W hW => plainWord4_X (h.bel hW) hs (Or.inr hk) x (hx.below hW)
  · refine Or.inl ⟨105, by rw [kindB_T hk]; rfl, fun _ _ => by kernel_rfl, ?_⟩
    rw [small_leafX hb (isT_two hk (by simp [ByteArray.toList_eq]))]
    exact fun W hW => anything_X (h.bel hW) hs hk
  · refine Or.inl ⟨111, by rw [kindB_T hk]; rfl, fun _ _ => by kernel_rfl, fun W hW => patternGroup_X hs IH (h.bel hW) hn hk⟩
theorem plain_no (h : SX w N rb sb m s k) (hb : beginsB (tk (Pu.toks s 0) k) 2 = false) (x : Nat) : got (kindB (tk (Pu.toks s 0) k)) (plainL rb x) = none := by
  have ho := tk_ok s k h.lt
  obtain ⟨n1, n2, n4, nt, nf, na, no⟩ := begins_none (by decide) hb
  rcases ho.kd with h' | h' | h' | h' | h' | h' | h'
  · exact absurd h' n1
  · exact absurd h' n2
  · rw [kindB_3 h']; rfl
  · exact absurd h' n4
  · rw [kindB_5 h']
    have hz := ho.s5 h'
    have big : ∀ c : ByteArray, 5 < c.size → c ≠ (tk (Pu.toks s 0) k).text := fun c hc e => by rw [e] at hc; omega
    refine got_no fun p hp => ?_
    simp only [plainL, List.mem_cons, List.not_mem_nil, or_false] at hp
    rcases hp with rfl | rfl | rfl | rfl | rfl | rfl | rfl
    · exact isT_ne h' (na rfl)
    · exact big kLow (by decide)
    · exact big kUp (by decide)
    · exact big kNum (by decide)
    · exact isT_ne h' nt
    · exact isT_ne h' nf
    · exact isT_ne h' no
  · exact absurd h' h.ok
  · rw [kindB_7 h']; rfl
theorem zeroFnP (w : World) : (zeroValue 203).run Tryz.prog w = .ok .nilFunc w := by kernel_rfl
set_option maxRecDepth 100000 in
set_option maxHeartbeats 2000000 in
theorem onePattern_X (hs : s.size ≤ 1000) (IH : PatC s n) (h : SX w N rb sb m s k) (hn : (Pu.toks s 0).length ≤ k + 1 + n) {b x : Nat} (hM : MS Value.string w b (plainL rb x)) (hx : Bx w x #[rp rb]) :
    Calls Tryz.prog 167 #[rp rb, .map (some b)] w (RuleX PP N rb sb m s (smallM (Pu.toks s 0) (patM (Pu.toks s 0) n) (wrongM (Pu.toks s 0)) 2 k) w) := by
  have hl := look_tab hM Tryz.underlying113 (zeroFnP w) (kindB (tk (Pu.toks s 0) k))
  have hnot : ∀ (x : Bool) (w : World), (Op.unary .not (.bool x)).run Tryz.prog w = .ok (.bool (!x)) w := fun _ _ => rfl
  obtain ⟨c, f, z⟩ := h.bx
  by_cases hb : beginsB (tk (Pu.toks s 0) k) 2 = true
  · rcases plain_yes hs IH h hn hb hx with ⟨F, hg, hcf, HC⟩ | ⟨F, hg, hcf, HC⟩
    all_goals rw [hg] at hl
    all_goals clear hg hM hx h IH
    · simp only [tupOf] at hl
      go_enter Tryz.func167, Tryz.ntmps167
      go_wp2_with fail
      refine (HC _ (Below.refl _ _)).mono ?_
      intro e w1 hp
      cases hA : fin (Pu.toks s 0) (smallM (Pu.toks s 0) (patM (Pu.toks s 0) n) (wrongM (Pu.toks s 0)) 2 k) with
      | error f' =>
        obtain ⟨rfl, hb'⟩ := hp.bad hA
        exact ⟨rfl, hp⟩
      | ok r =>
      obtain ⟨a, k2⟩ := r
      obtain ⟨v, rfl, _, _, hR⟩ := hp.ok hA
      obtain ⟨tv, xv, rfl⟩ := hR.iface
      go_wp2_with fail
      go_ret
      exact hp
    · simp only [tupOf] at hl
      go_enter Tryz.func167, Tryz.ntmps167
      go_wp2_with fail
      refine (HC _ (Below.refl _ _)).mono ?_
      intro e w1 hp
      cases hA : fin (Pu.toks s 0) (smallM (Pu.toks s 0) (patM (Pu.toks s 0) n) (wrongM (Pu.toks s 0)) 2 k) with
      | error f' =>
        obtain ⟨rfl, hb'⟩ := hp.bad hA
        exact ⟨rfl, hp⟩
      | ok r =>
      obtain ⟨a, k2⟩ := r
      obtain ⟨v, rfl, _, _, hR⟩ := hp.ok hA
      obtain ⟨tv, xv, rfl⟩ := hR.iface
      go_wp2_with fail
      go_ret
      exact hp
  · have hb' : beginsB (tk (Pu.toks s 0) k) 2 = false := by simpa using hb
    rw [plain_no h hb' x] at hl
    simp only [tupOf] at hl
    have h6 := h.ok
    go_enter Tryz.func167, Tryz.ntmps167
    go_wp2_with (go_at_call 77; refine (misplaced_C h.rd).mono ?_; rintro e w1 ⟨rfl, hb⟩)
    refine ⟨rfl, Ke.of hb, ?_⟩
    rw [show smallM (Pu.toks s 0) (patM (Pu.toks s 0) n) (wrongM (Pu.toks s 0)) 2 k = .error (flOf (tk (Pu.toks s 0) k)) by unfold smallM; rw [hb']; rfl, flOf, if_neg h6]
    rfl
end
end Go.Proofs.YteneoapickhpdaaGreatDoor
namespace Go.Proofs.YteneoapickhpdaaGreatDoor
open Go Go.RowKit Go.ChangeMaps
theorem patInfo : (Tryz.prog.info? 205).map (fun i => (i.zero, i.size, i.bytes)) = some (some .nilIface, 1, 16) := by kernel_rfl
theorem patsUnder : Tryz.prog.underlying 248 = some (.slice 205) := by kernel_rfl
/-- A name and the patterns behind it. -/
def ManyP (nm : ByteArray) (w : World) (P : Nat → Prop) (a : Nd) (v : Value) : Prop := ∃ L fr to at_, a = .mk 2 nm 0 L fr to at_ ∧ RowV (Q1 PP) 1 w P L v
abbrev smP (s : ByteArray) (n : Nat) : M Nd := smallM (Pu.toks s 0) (patM (Pu.toks s 0) n) (wrongM (Pu.toks s 0)) 2
def ManyRelP (N rb sb : Nat) (m : MV) (s : ByteArray) (n k : Nat) (nm : ByteArray) (fr at_ : Nat) (w : World) (r : Except Fl (Nd × Nat)) (gk : Nat) (v : Value) (wr : World) : Prop :=
  ∃ (kr : Nat) (L : List Nd) (to f : Nat) (va : Option Addr) (vc : Nat),
    v = .slice va L.length vc ∧ SX wr N rb sb m s kr ∧ Ke rb w wr ∧ Hid (gk = (Pu.toks s 0).length - kr) ∧ k ≤ kr ∧ L.length ≤ kr ∧
    RowO (Q1 PP) 205 1 wr w.heap.size va vc L ∧ Hid (r = headF (Pu.toks s 0) (smP s n) 2 f (.mk 2 nm 0 L fr to at_) kr) ∧ (Pu.toks s 0).length ≤ kr + f
theorem headF_stop' {T : List Pu.Tok} {sm : M Nd} {sort f : Nat} {x : Nd} {k : Nat} (h : beginsB (tk T k) sort = false) : headF T sm sort f x k = .ok (x, k) := by
  cases f with
  | zero => rfl
  | succ f => unfold headF; rw [h]; rfl
theorem headF_go' {T : List Pu.Tok} {sm : M Nd} {sort f : Nat} {x : Nd} {k : Nat} (h : beginsB (tk T k) sort = true) : headF T sm sort (f + 1) x k = bnd sm (fun y k' => headF T sm sort f (x.add y (lastK T k')) k') k := by
  show (if beginsB (tk T k) sort = true then _ else _) = _
  rw [if_pos h]
section
variable {w : World} {N rb sb : Nat} {m : MV} {s : ByteArray} {k n : Nat}
theorem SX.plain (h : SX w N rb sb m s k) {b : Nat} (hb : m.d = .map (some b)) : ∃ x, Bx w x #[rp rb] ∧ MS Value.string w b (plainL rb x) := by
  obtain ⟨x, hx, b', e, _, _, hM⟩ := h.ev.mp.pl
  rw [hb] at e
  cases e
  exact ⟨x, hx.2.2, hM⟩
set_option maxRecDepth 100000 in
set_option maxHeartbeats 2000000 in
theorem manyPattern_X (hs : s.size ≤ 1000) (hT : (Pu.toks s 0).length ≤ 1001) (IH : PatC s n) (h : SX w N rb sb m s k) (hn : (Pu.toks s 0).length ≤ k + 1 + n) (nm : ByteArray) (fr to at_ : Nat) {b : Nat} (hmd : m.d = .map (some b)) :
    Calls Tryz.prog 168 #[rp rb, .map (some b)] w (RuleX (ManyP nm) N rb sb m s (headF (Pu.toks s 0) (smP s n) 2 (Pu.toks s 0).length (.mk 2 nm 0 [] fr to at_) k) w) := by
  obtain ⟨i0, hi0, hz0, hz1, hz2⟩ := info_parts patInfo
  have hnot : ∀ (x : Bool) (w : World), (Op.unary .not (.bool x)).run Tryz.prog w = .ok (.bool (!x)) w := fun _ _ => rfl
  have hzr := h.z
  have hNw := h.ev.hN
  obtain ⟨r, hr⟩ : ∃ r, r = headF (Pu.toks s 0) (smP s n) 2 (Pu.toks s 0).length (.mk 2 nm 0 [] fr to at_) k := ⟨_, rfl⟩
  rw [← hr]
  have hk := h.lt
  have HR := hide h
  have Hr := hide hr
  have Hmd := hide hmd
  clear h hr hmd
  go_enter Tryz.func168, Tryz.ntmps168
  go_wp2_with fail
  go_loopg [5] ((Pu.toks s 0).length - k) (fun gk v wr => ManyRelP N rb sb m s n k nm fr at_ w r gk v wr)
  case atStart => exact ⟨k, [], to, (Pu.toks s 0).length, none, 0, rfl, unhide HR, Ke.refl _ _, hide rfl, Nat.le_refl _, by simp, RowO.nil _ _ _ _ _, Hr, by omega⟩
  case round =>
    clear HR Hr
    obtain ⟨kr, L, to', f, va, vc, rfl, R, K, hgk, hle, hLl, RW, hE, hfu⟩ := hrel
    obtain ⟨x, hx, hM⟩ := R.plain (unhide Hmd)
    have hl := look_tab hM Tryz.underlying113 (zeroFnP wr) (kindB (tk (Pu.toks s 0) kr))
    have hkr := R.lt
    obtain ⟨c, ff, z⟩ := R.bx
    by_cases hb : beginsB (tk (Pu.toks s 0) kr) 2 = true
    · obtain ⟨f, rfl⟩ : ∃ f', f = f' + 1 := ⟨f - 1, by omega⟩
      have hE2 := hide ((unhide hE).trans (headF_go' hb))
      clear hE
      rcases plain_yes hs IH R (by omega) hb hx with ⟨F, hg, hcf, HC⟩ | ⟨F, hg, hcf, HC⟩
      all_goals rw [hg] at hl
      all_goals clear hg
      · simp only [tupOf] at hl
        go_wp2_with fail
        refine (HC _ (Below.refl _ _)).mono ?_
        intro e w1 hp
        cases hA : fin (Pu.toks s 0) (smP s n kr) with
        | error f' =>
          obtain ⟨rfl, hb'⟩ := hp.bad hA
          exact ⟨rfl, RuleX.stop (unhide hE2) hA (fun a q h => stall_headF' _ _ _ _ q h) (K.trans hb')⟩
        | ok rr =>
        obtain ⟨a, k2⟩ := rr
        obtain ⟨v, rfl, hb1, S1, P1⟩ := hp.ok hA
        obtain ⟨tv, xv, rfl⟩ := P1.iface
        have hlt := small_mono (pat_mono (T := (Pu.toks s 0)) n) wrong_mono 2 _ _ _ (fin_ok hA).1
        have HE3 := hide ((unhide hE2).trans (fin_bnd_ok hA))
        have z1 := hb1.size
        have zw := K.size
        have hrw := RW.block
        have RW1 := RW.ke moves_pp hb1 hzr
        have hob := RW1.block
        obtain ⟨cs, hown, hPP⟩ := RW1
        have HO := hide hown
        have HPP := hide hPP
        have HP1 := hide P1
        have HS1 := hide S1
        have HK1 := hide (K.trans hb1)
        clear hp hA HC hE2 hcf hown hPP P1 S1 hb1 RW R K c ff z hl hM hx
        go_wp2_with (at_builtin; go_must (refine wpList_append_own_at _ rfl (.tmp 21) (.tmp 24) 248 rfl w.heap.size 205 i0 _ 1 16 patsUnder hi0 hz0 hz1 hz2 rfl (by decide) (.slice va L.length vc) L.length _ rfl ((unhide HO).alloc _) ⟨w1.heap.size, 0, none⟩ 1 1 [.iface tv (.agg xv)] rfl rfl (cells_at _ _ _ _ (by simp)) (by intro u hu; simp at hu; subst hu; rfl) (by unfold maxLen; omega) (by omega) (by simp; omega) ?_; intro v3 w3 hown3 hg3 hnil3 hloc3; have Hown3 := hide hown3; have Hg3 := hide hg3; have Hloc3 := hide hloc3; clear hown3 hg3 hnil3 hloc3))
        obtain ⟨q3, c3, rfl⟩ := own_some (unhide Hown3) (by omega)
        go_roundg ((Pu.toks s 0).length - k2)
        case measure => rw [unhide hgk]; omega
        case rel =>
          have hlen : (L ++ [a]).length = L.length + 1 := by simp
          have hbw : Below w1.heap.size w1 (w1.alloc (.cells #[.iface tv (.agg xv)] 205)) := (Below.refl _ _).alloc (Nat.le_refl _) _
          refine ⟨k2, L ++ [a], lastK (Pu.toks s 0) k2, f, some ⟨q3, 0, none⟩, c3, by rw [hlen], ((unhide HS1).bel hbw).grown (unhide Hg3) (fun j e => by have := hob j e; omega), ?_, hide rfl, by omega, by rw [hlen]; omega, ?_, HE3, by omega⟩
          · exact Ke.grown (unhide Hg3) ((unhide HK1).below' hbw) (fun j e => (hob j e).1)
          · exact RowO.push (w1 := w1) (lo := wr.heap.size) (c := fun _ => .iface tv (.agg xv)) moves_pp (unhide HPP) (unhide HP1) (by omega) (fun b e => (hrw b e).2) hbw (unhide Hown3) (unhide Hg3) (unhide Hloc3)
      · simp only [tupOf] at hl
        go_wp2_with fail
        refine (HC _ (Below.refl _ _)).mono ?_
        intro e w1 hp
        cases hA : fin (Pu.toks s 0) (smP s n kr) with
        | error f' =>
          obtain ⟨rfl, hb'⟩ := hp.bad hA
          exact ⟨rfl, RuleX.stop (unhide hE2) hA (fun a q h => stall_headF' _ _ _ _ q h) (K.trans hb')⟩
        | ok rr =>
        obtain ⟨a, k2⟩ := rr
        obtain ⟨v, rfl, hb1, S1, P1⟩ := hp.ok hA
        obtain ⟨tv, xv, rfl⟩ := P1.iface
        have hlt := small_mono (pat_mono (T := (Pu.toks s 0)) n) wrong_mono 2 _ _ _ (fin_ok hA).1
        have HE3 := hide ((unhide hE2).trans (fin_bnd_ok hA))
        have z1 := hb1.size
        have zw := K.size
        have hrw := RW.block
        have RW1 := RW.ke moves_pp hb1 hzr
        have hob := RW1.block
        obtain ⟨cs, hown, hPP⟩ := RW1
        have HO := hide hown
        have HPP := hide hPP
        have HP1 := hide P1
        have HS1 := hide S1
        have HK1 := hide (K.trans hb1)
        clear hp hA HC hE2 hcf hown hPP P1 S1 hb1 RW R K c ff z hl hM hx
        go_wp2_with (at_builtin; go_must (refine wpList_append_own_at _ rfl (.tmp 21) (.tmp 24) 248 rfl w.heap.size 205 i0 _ 1 16 patsUnder hi0 hz0 hz1 hz2 rfl (by decide) (.slice va L.length vc) L.length _ rfl ((unhide HO).alloc _) ⟨w1.heap.size, 0, none⟩ 1 1 [.iface tv (.agg xv)] rfl rfl (cells_at _ _ _ _ (by simp)) (by intro u hu; simp at hu; subst hu; rfl) (by unfold maxLen; omega) (by omega) (by simp; omega) ?_; intro v3 w3 hown3 hg3 hnil3 hloc3; have Hown3 := hide hown3; have Hg3 := hide hg3; have Hloc3 := hide hloc3; clear hown3 hg3 hnil3 hloc3))
        obtain ⟨q3, c3, rfl⟩ := own_some (unhide Hown3) (by omega)
        go_roundg ((Pu.toks s 0).length - k2)
        case measure => rw [unhide hgk]; omega
        case rel =>
          have hlen : (L ++ [a]).length = L.length + 1 := by simp
          have hbw : Below w1.heap.size w1 (w1.alloc (.cells #[.iface tv (.agg xv)] 205)) := (Below.refl _ _).alloc (Nat.le_refl _) _
          refine ⟨k2, L ++ [a], lastK (Pu.toks s 0) k2, f, some ⟨q3, 0, none⟩, c3, by rw [hlen], ((unhide HS1).bel hbw).grown (unhide Hg3) (fun j e => by have := hob j e; omega), ?_, hide rfl, by omega, by rw [hlen]; omega, ?_, HE3, by omega⟩
          · exact Ke.grown (unhide Hg3) ((unhide HK1).below' hbw) (fun j e => (hob j e).1)
          · exact RowO.push (w1 := w1) (lo := wr.heap.size) (c := fun _ => .iface tv (.agg xv)) moves_pp (unhide HPP) (unhide HP1) (by omega) (fun b e => (hrw b e).2) hbw (unhide Hown3) (unhide Hg3) (unhide Hloc3)
    · have hb' : beginsB (tk (Pu.toks s 0) kr) 2 = false := by simpa using hb
      rw [plain_no R hb' x] at hl
      simp only [tupOf] at hl
      have hE2 := hide ((unhide hE).trans (headF_stop' hb'))
      go_wp2_with fail
      go_ret
      exact RuleX.done (unhide hE2) K R ⟨L, _, _, _, rfl, RW.v moves_pp⟩
end
end Go.Proofs.YteneoapickhpdaaGreatDoor
namespace Go.Proofs.YteneoapickhpdaaGreatDoor
open Go Go.RowKit Go.ChangeMaps
theorem headF_form {T : List Pu.Tok} {sm : M Nd} {sort c : Nat} {nm : ByteArray} {n fr at_ : Nat} : ∀ f L k a k2, headF T sm sort f (.mk c nm n L fr (lastK T k) at_) k = .ok (a, k2) → ∃ L', a = .mk c nm n L' fr (lastK T k2) at_
  | 0, L, k, a, k2, h => by cases h; exact ⟨L, rfl⟩
  | f + 1, L, k, a, k2, h => by
    unfold headF at h
    split at h
    · obtain ⟨y, k1, _, h2⟩ := bnd_inv h
      exact headF_form f (L ++ [y]) k1 a k2 h2
    · cases h; exact ⟨L, rfl⟩
section
variable {w : World} {N rb sb : Nat} {m : MV} {s : ByteArray} {k n : Nat}
theorem SX.md (h : SX w N rb sb m s k) : ∃ b, m.d = .map (some b) := by
  obtain ⟨x, _, b, e, _⟩ := h.ev.mp.pl
  exact ⟨b, e⟩
theorem RowV.up {P : Nat → Prop} {L : List Nd} {v : Value} (h : RowV (Q1 PP) 1 w P L v) (s : ByteArray) (n f t a y : Nat) (hu : UpN s) (hy : y = a + s.size) : PP w P (.mk 2 s n L f t a) (.iface 250 (.agg #[.int .i64 (f : Int), .int .i64 (t : Int), .int .i64 (a : Int), .int .i64 (y : Int), .string s, v])) := by
  obtain ⟨va, vc, cs, rfl, hrow, hr⟩ := h
  refine .up s n L f t a y va vc (fun i => cs i 0) hu hy ?_ hr
  rcases hrow with h0 | ⟨g, h1, h2, h3, h4⟩
  · exact Or.inl h0
  · exact Or.inr ⟨g, h1, h2, h3, fun i hi => by have := h4 i hi 0 (by decide); simpa using this⟩
set_option maxRecDepth 100000 in
set_option maxHeartbeats 2000000 in
theorem pattern_step (hs : s.size ≤ 1000) (hT : (Pu.toks s 0).length ≤ 1001) (IH : PatC s n) : PatC s (n + 1) := by
  intro w N rb sb m k h hn
  obtain ⟨b, hmd⟩ := h.md
  have ho := tk_ok s k h.lt
  have hin := tk_in s k h.lt
  have hku := kind_up ho h.ok
  have hz := h.z
  have hNw := h.ev.hN
  obtain ⟨c, f, z⟩ := h.bx

  by_cases h2 : (tk (Pu.toks s 0) k).kind = 2
  · have hkd' : ((kindB (tk (Pu.toks s 0) k)).toList == [117, 112, 32, 110, 97, 109, 101]) = true := by rw [show kUp.toList = [117, 112, 32, 110, 97, 109, 101] from toList_mk _] at hku; rw [hku]; simp [h2]
    obtain ⟨k1, e1, e2⟩ := tk_step s k h.lt (by omega)
    have HE : Hid (patM (Pu.toks s 0) (n + 1) k = bnd (nameM (Pu.toks s 0) 2) (fun _ => headF (Pu.toks s 0) (smP s n) 2 (Pu.toks s 0).length (.mk 2 (tk (Pu.toks s 0) k).text 0 [] (tk (Pu.toks s 0) k).frm (lastK (Pu.toks s 0) (k + 1)) (tk (Pu.toks s 0) k).frm)) k) := by
      show _ = _
      show headM (Pu.toks s 0) (smP s n) 2 k = _
      unfold headM
      rw [if_pos (by simp [h2])]
      unfold bnd
      rw [show smP s n k = _ from small_up 2 k h2, nameM_ok h2, e2]
      unfold leafN leafK leafNum
      simp [h2]
    have HC := name_X h hs 2 kUp (Or.inr ⟨rfl, rfl⟩)
    have Hmd := hide hmd
    clear hku h
    go_enter Tryz.func150, Tryz.ntmps150
    go_wp2_with fail
    refine HC.mono ?_
    intro e w1 hp
    rw [nameM_ok h2] at hp
    by_cases h61 : (tk (Pu.toks s 0) (k + 1)).kind = 6
    · obtain ⟨rfl, hb⟩ := hp.bad (fin_at _ h61)
      exact ⟨rfl, RuleX.stop (unhide HE) (by rw [nameM_ok h2]; exact fin_at _ h61) (fun a => stall_headF' _ _ _ _) hb⟩
    obtain ⟨v, rfl, K1, S1, hR⟩ := hp.ok (fin_ok' _ h61)
    cases hR
    have HE2 := hide ((unhide HE).trans (fin_bnd_ok (by rw [nameM_ok h2]; exact fin_ok' _ h61)))
    have hb1 : Below w1.heap.size w1 (w1.alloc (.cells #[.int .i64 ((tk (Pu.toks s 0) k).frm : Int), .int .i64 ((tk (Pu.toks s 0) k).to : Int), .string (tk (Pu.toks s 0) k).text] 120)) := (Below.refl _ _).alloc (Nat.le_refl _) _
    have S2 := hide (S1.bel hb1)
    have K2 := hide (K1.below' hb1)
    have B2 := hide (Bx.new w1 #[.int .i64 ((tk (Pu.toks s 0) k).frm : Int), .int .i64 ((tk (Pu.toks s 0) k).to : Int), .string (tk (Pu.toks s 0) k).text] 120)
    have z1 := K1.size
    obtain ⟨c2, f2, z2⟩ := (unhide S2).bx

    clear hp hb1 S1 K1 c f z HC HE
    go_wp2_with fail
    refine (manyPattern_X hs hT IH (unhide S2) (by omega) (tk (Pu.toks s 0) k).text (tk (Pu.toks s 0) k).frm (lastK (Pu.toks s 0) (k + 1)) (tk (Pu.toks s 0) k).frm (unhide Hmd)).mono ?_
    intro e w3 hp
    cases hA : fin (Pu.toks s 0) (headF (Pu.toks s 0) (smP s n) 2 (Pu.toks s 0).length (.mk 2 (tk (Pu.toks s 0) k).text 0 [] (tk (Pu.toks s 0) k).frm (lastK (Pu.toks s 0) (k + 1)) (tk (Pu.toks s 0) k).frm) (k + 1)) with
    | error f' =>
      obtain ⟨rfl, hb'⟩ := hp.bad hA
      exact ⟨rfl, RuleX.fail ((unhide K2).trans hb') (by rw [unhide HE2]; exact hA)⟩
    | ok rr =>
    obtain ⟨a, k2⟩ := rr
    obtain ⟨v, rfl, hb3, S3, L, fr, to, at_, rfl, RV⟩ := hp.ok hA
    have hform := headF_form _ _ _ _ _ (fin_ok hA).1
    obtain ⟨L', hL'⟩ := hform
    injection hL' with _ _ _ e3 e4 e5 e6
    subst e3 e4 e5 e6
    have HE3 := hide ((unhide HE2).trans (fin_ok hA).1)
    have B3 := hide ((unhide B2).ke' hb3 (by omega))
    have S3' := hide S3
    have K3 := hide ((unhide K2).trans hb3)
    have P3 := hide (RV.up (tk (Pu.toks s 0) k).text 0 (tk (Pu.toks s 0) k).frm (lastK (Pu.toks s 0) k2) (tk (Pu.toks s 0) k).frm (tk (Pu.toks s 0) k).to (ho.v2 h2) hin.sp)
    obtain ⟨va, vc, cs, rfl, _, _⟩ := RV
    obtain ⟨c3, f3, z3⟩ := unhide B3
    have z33 := hb3.size
    simp at z33
    clear hp hA S3 hb3 c2 f2 z2 hkd' HE2 B2 S2 K2
    go_wp2_with fail
    go_region_with (go_at_call 88; refine (since_X ((unhide S3').bel (Below.refl _ _).drew) _).mono ?_; rintro e w4 ⟨rfl, hb4⟩; have S4 := hide (((unhide S3').bel (Below.refl _ _).drew).bel hb4); have K4 := hide (((unhide K3).below' (Below.refl _ _).drew).below' hb4); have B4 := hide ((unhide B3).drew'.below hb4); have P4 := hide (((unhide P3).bel (Below.refl _ _).drew).bel hb4); obtain ⟨c4, f4, z4⟩ := unhide B4; clear hb4)
    all_goals (
      go_wp2_with fail
      go_ret
      exact RuleX.done (unhide HE3) (unhide K4) (unhide S4) ((unhide P4).wide fun b p => Nat.le_trans (by simp; omega) p))
  · have hkd' : ((kindB (tk (Pu.toks s 0) k)).toList == [117, 112, 32, 110, 97, 109, 101]) = false := by rw [show kUp.toList = [117, 112, 32, 110, 97, 109, 101] from toList_mk _] at hku; rw [hku]; simp [h2]
    have HE : patM (Pu.toks s 0) (n + 1) k = smP s n k := by show headM (Pu.toks s 0) (smP s n) 2 k = _; unfold headM; rw [if_neg (by simp [h2])]
    rw [HE]
    obtain ⟨x, hx, hM⟩ := h.plain hmd
    have HC := onePattern_X hs IH h (by omega) hM hx
    clear hku HE
    go_enter Tryz.func150, Tryz.ntmps150
    go_wp2_with fail
    refine HC.mono ?_
    intro e w1 hp
    cases hA : fin (Pu.toks s 0) (smP s n k) with
    | error f' =>
      obtain ⟨rfl, hb'⟩ := hp.bad hA
      exact ⟨rfl, hp⟩
    | ok r =>
    obtain ⟨a, k2⟩ := r
    obtain ⟨v, rfl, _, _, hR⟩ := hp.ok hA
    obtain ⟨tv, xv, rfl⟩ := hR.iface
    go_wp2_with fail
    go_ret
    exact hp
theorem pattern_X (hs : s.size ≤ 1000) (hT : (Pu.toks s 0).length ≤ 1001) : ∀ n, PatC s n
  | 0 => fun w N rb sb m k h hn => by have := h.lt; omega
  | n + 1 => pattern_step hs hT (pattern_X hs hT n)
end
end Go.Proofs.YteneoapickhpdaaGreatDoor
namespace Go.Proofs.YteneoapickhpdaaGreatDoor
open Go Go.RowKit
/-- It takes a token at least. -/
def Lts {α : Type} (m : M α) : Prop := ∀ k a k', m k = .ok (a, k') → k < k'
section
variable {T : List Pu.Tok}
theorem Lts.mono {m : M Nd} (h : Lts m) : Mono m := fun k a k' q => Nat.le_of_lt (h k a k' q)
theorem callF_mono {sm : M Nd} (hm : Lts sm) (fr : Nat) : ∀ f x k a k', callF T sm fr f x k = .ok (a, k') → k ≤ k' := by
  intro f
  induction f with
  | zero => intro x k a k' h; cases h; omega
  | succ f ih =>
    intro x k a k' h
    unfold callF at h
    split at h
    · obtain ⟨y, k1, h1, h2⟩ := bnd_inv h
      have := hm _ _ _ h1
      have := ih _ _ _ _ h2
      omega
    · cases h; omega
theorem prodF_mono {sm : M Nd} (hm : Lts sm) (fr : Nat) : ∀ f x k a k', prodF T sm fr f x k = .ok (a, k') → k ≤ k' := by
  intro f
  induction f with
  | zero => intro x k a k' h; cases h; omega
  | succ f ih =>
    intro x k a k' h
    unfold prodF at h
    split at h
    · obtain ⟨y, k1, h1, h2⟩ := bnd_inv h
      have := hm _ _ _ h1
      have := ih _ _ _ _ h2
      omega
    · cases h; omega
theorem sumF_mono {sm : M Nd} (hm : Lts sm) (fr : Nat) : ∀ f x k a k', sumF T sm fr f x k = .ok (a, k') → k ≤ k' := by
  intro f
  induction f with
  | zero => intro x k a k' h; cases h; omega
  | succ f ih =>
    intro x k a k' h
    unfold sumF at h
    split at h
    · obtain ⟨y, k1, h1, h2⟩ := bnd_inv h
      have := hm _ _ _ h1
      have := ih _ _ _ _ h2
      omega
    · cases h; omega
theorem call_lts {sm : M Nd} (hm : Lts sm) : Lts (callM T sm) := fun k a k' h => by
  unfold callM at h
  obtain ⟨y, k1, h1, h2⟩ := bnd_inv h
  have := hm _ _ _ h1
  have := callF_mono hm _ _ _ _ _ _ h2
  omega
theorem prod_lts {sm : M Nd} (hm : Lts sm) : Lts (prodM T sm) := fun k a k' h => by
  unfold prodM at h
  obtain ⟨y, k1, h1, h2⟩ := bnd_inv h
  have := hm _ _ _ h1
  have := prodF_mono hm _ _ _ _ _ _ h2
  omega
theorem sum_lts {sm : M Nd} (hm : Lts sm) : Lts (sumM T sm) := fun k a k' h => by
  unfold sumM at h
  obtain ⟨y, k1, h1, h2⟩ := bnd_inv h
  have := hm _ _ _ h1
  have := sumF_mono hm _ _ _ _ _ _ h2
  omega
theorem less_lts {sm : M Nd} (hm : Lts sm) : Lts (lessM T sm) := fun k a k' h => by
  unfold lessM at h
  obtain ⟨y, k1, h1, h2⟩ := bnd_inv h
  have := hm _ _ _ h1
  split at h2
  · obtain ⟨z, k2, h3, h4⟩ := bnd_inv h2
    have := hm _ _ _ h3
    cases h4
    omega
  · cases h2; omega
theorem fun_lts {e : M Nd} (hm : Lts e) : Lts (funM T e) := fun k a k' h => by
  unfold funM at h
  obtain ⟨_, k1, h1, h2⟩ := bnd_inv h
  obtain ⟨_, k2, h3, h4⟩ := bnd_inv h2
  obtain ⟨_, k3, h5, h6⟩ := bnd_inv h4
  obtain ⟨_, k4, h7, h8⟩ := bnd_inv h6
  cases h8
  have := want_mono _ _ _ _ h1
  have := name_mono _ _ _ _ h3
  have := want_mono _ _ _ _ h5
  have := hm _ _ _ h7
  omega
theorem bound_lts {e : M Nd} (hm : Lts e) : Lts (boundM T e) := fun k a k' h => by
  unfold boundM at h
  obtain ⟨_, k1, h1, h2⟩ := bnd_inv h
  have := want_mono _ _ _ _ h1
  split at h2
  · obtain ⟨_, k2, h3, h4⟩ := bnd_inv h2
    obtain ⟨_, k3, h5, h6⟩ := bnd_inv h4
    obtain ⟨_, k4, h7, h8⟩ := bnd_inv h6
    cases h8
    have := name_mono _ _ _ _ h3
    have := want_mono _ _ _ _ h5
    have := fun_lts hm _ _ _ h7
    omega
  · obtain ⟨_, k2, h3, h4⟩ := bnd_inv h2
    obtain ⟨_, k3, h5, h6⟩ := bnd_inv h4
    obtain ⟨_, k4, h7, h8⟩ := bnd_inv h6
    cases h8
    have := name_mono _ _ _ _ h3
    have := want_mono _ _ _ _ h5
    have := hm _ _ _ h7
    omega
theorem arms_mono {p e : M Nd} (hp : Mono p) (hm : Lts e) : ∀ f l k a k', armsF T p e f l k = .ok (a, k') → k ≤ k' := by
  intro f
  induction f with
  | zero => intro l k a k' h; cases h; omega
  | succ f ih =>
    intro l k a k' h
    unfold armsF at h
    obtain ⟨_, k1, h1, h2⟩ := bnd_inv h
    obtain ⟨_, k2, h3, h4⟩ := bnd_inv h2
    obtain ⟨_, k3, h5, h6⟩ := bnd_inv h4
    have := hp _ _ _ h1
    have := want_mono _ _ _ _ h3
    have := hm _ _ _ h5
    split at h6
    · have := ih _ _ _ _ h6; omega
    · cases h6; omega
theorem expr_lts : ∀ n, Lts (exprM T n)
  | 0 => fun k a k' h => by cases h
  | n + 1 => fun k a k' h => by
    have ih := expr_lts n
    unfold exprM at h
    split at h
    · exact fun_lts ih _ _ _ h
    split at h
    · unfold choiceM at h
      obtain ⟨_, k1, h1, h2⟩ := bnd_inv h
      obtain ⟨_, k2, h3, h4⟩ := bnd_inv h2
      obtain ⟨_, k3, h5, h6⟩ := bnd_inv h4
      obtain ⟨_, k4, h7, h8⟩ := bnd_inv h6
      obtain ⟨_, k5, h9, h10⟩ := bnd_inv h8
      obtain ⟨_, k6, h11, h12⟩ := bnd_inv h10
      cases h12
      have := want_mono _ _ _ _ h1
      have := ih _ _ _ h3
      have := want_mono _ _ _ _ h5
      have := ih _ _ _ h7
      have := want_mono _ _ _ _ h9
      have := ih _ _ _ h11
      omega
    split at h
    · unfold matchM at h
      obtain ⟨_, k1, h1, h2⟩ := bnd_inv h
      obtain ⟨_, k2, h3, h4⟩ := bnd_inv h2
      obtain ⟨_, k3, h5, h6⟩ := bnd_inv h4
      obtain ⟨_, k4, h7, h8⟩ := bnd_inv h6
      obtain ⟨_, k5, h9, h10⟩ := bnd_inv h8
      cases h10
      have := want_mono _ _ _ _ h1
      have := ih _ _ _ h3
      have := want_mono _ _ _ _ h5
      have := arms_mono (pat_mono n) ih _ _ _ _ _ h7
      have := want_mono _ _ _ _ h9
      omega
    split at h
    · unfold letM at h
      obtain ⟨_, k1, h1, h2⟩ := bnd_inv h
      obtain ⟨_, k2, h3, h4⟩ := bnd_inv h2
      obtain ⟨_, k3, h5, h6⟩ := bnd_inv h4
      cases h6
      have := bound_lts ih _ _ _ h1
      have := want_mono _ _ _ _ h3
      have := ih _ _ _ h5
      omega
    · exact less_lts (sum_lts (prod_lts (call_lts (small_mono ih.mono (typ_mono n) 3)))) _ _ _ h
theorem expr_mono (n : Nat) : Mono (exprM T n) := (expr_lts n).mono
end
end Go.Proofs.YteneoapickhpdaaGreatDoor
