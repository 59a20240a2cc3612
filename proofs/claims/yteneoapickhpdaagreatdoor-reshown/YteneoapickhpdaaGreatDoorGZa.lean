import Derived.Test.YteneoapickhpdaaGreatDoorGTo
import Derived.Test.YteneoapickhpdaaGreatDoorGYb
import Derived.Test.YteneoapickhpdaaGreatDoorGVb
set_option linter.unusedSimpArgs false
set_option linter.unusedVariables false
set_option linter.unusedSectionVars false
namespace Go.Proofs.YteneoapickhpdaaGreatDoor
open Go Go.RowKit Go.ChangeMaps Un
/-- How tightly a part holds together, as the document tells it. -/
def lv : Nd → Nat
  | .mk k s _ L _ _ _ => if k = 1 ∨ k = 3 ∨ k = 4 ∨ k = 5 ∨ k = 6 ∨ k = 14 ∨ k = 15 ∨ k = 16 then 5 else if k = 2 then (if L = [] then 5 else 4) else if k = 8 then 4 else if k = 17 then 1 else if k = 7 then (if s.toList = [42] then 3 else if s.toList = [60] then 1 else 2) else 0
/-- A part, in parentheses if it holds less tightly than it must. -/
def atP (p : Nat × List UInt8) (least : Nat) : List UInt8 := Un.par (decide (p.1 < least)) p.2
def behindP (P : List (Nat × List UInt8)) : List UInt8 := P.flatMap fun p => 32 :: atP p 5
/-- The arms of a match, behind what is looked at. -/
def armsP : Bool → List (Nat × List UInt8) → List UInt8
  | b, p :: e :: r => (if b then [] else [32, 124, 32]) ++ (p.2 ++ ([32, 45, 62, 32] ++ (e.2 ++ armsP false r)))
  | _, _ => []
def gP (P : List (Nat × List UInt8)) (i : Nat) : Nat × List UInt8 := P.getD i (0, [])
def joinE (k : Nat) (s : ByteArray) (n l : Nat) (P : List (Nat × List UInt8)) : List UInt8 :=
  if k = 1 ∨ k = 4 ∨ k = 16 then s.toList
  else if k = 15 then [95]
  else if k = 3 then dec n
  else if k = 5 then [40, 41]
  else if k = 2 then s.toList ++ behindP P
  else if k = 6 then 40 :: ((gP P 0).2 ++ ([44, 32] ++ ((gP P 1).2 ++ [41])))
  else if k = 14 then 40 :: ((gP P 0).2 ++ ([32, 58, 32] ++ ((gP P 1).2 ++ [41])))
  else if k = 17 then atP (gP P 0) 2 ++ ([32, 45, 62, 32] ++ (gP P 1).2)
  else if k = 8 then atP (gP P 0) 4 ++ (32 :: atP (gP P 1) 5)
  else if k = 7 then atP (gP P 0) (if l = 1 then 2 else l) ++ (32 :: (s.toList ++ (32 :: atP (gP P 1) (l + 1))))
  else if k = 9 then [102, 117, 110, 32] ++ (s.toList ++ ([32, 45, 62, 32] ++ (gP P 0).2))
  else if k = 12 then [105, 102, 32] ++ ((gP P 0).2 ++ ([32, 116, 104, 101, 110, 32] ++ ((gP P 1).2 ++ ([32, 101, 108, 115, 101, 32] ++ (gP P 2).2))))
  else if k = 13 then [109, 97, 116, 99, 104, 32] ++ ((gP P 0).2 ++ ([32, 119, 105, 116, 104, 32] ++ (armsP true (P.drop 1) ++ [32, 101, 110, 100])))
  else [108, 101, 116, 32] ++ ((if k = 11 then [114, 101, 99, 32] else []) ++ (s.toList ++ ([32, 61, 32] ++ ((gP P 0).2 ++ ([32, 105, 110, 32] ++ (gP P 1).2)))))
mutual
/-- A part, shown. -/
def sh : Nd → List UInt8
  | .mk k s n L f t a => joinE k s n (lv (.mk k s n L f t a)) (prL L)
def prL : List Nd → List (Nat × List UInt8)
  | [] => []
  | x :: l => (lv x, sh x) :: prL l
end
theorem prL_map : ∀ L : List Nd, prL L = L.map fun x => (lv x, sh x)
  | [] => rfl
  | x :: l => by simp [prL, prL_map l]
/-- As it stands where the project asks for such a level. -/
def atW (nd : Nd) (p : Nat) : List UInt8 := Un.par (decide (lv nd - 1 < p)) (sh nd)
theorem atW_0 (nd : Nd) : atW nd 0 = sh nd := by unfold atW; rw [show decide (lv nd - 1 < 0) = false by simp]; rfl
theorem atW_at (nd : Nd) (p : Nat) (h : 1 ≤ p) : atW nd p = atP (lv nd, sh nd) (p + 1) := by
  unfold atW atP
  rw [show decide (lv nd - 1 < p) = decide (lv nd < p + 1) by simp; omega]
theorem par_f (x : List UInt8) : Un.par false x = x := rfl
theorem par_t (x : List UInt8) : Un.par true x = 40 :: (x ++ [41]) := rfl
def putsL (l : List UInt8) (last : ByteArray) : List ByteArray → List UInt8
  | [] => l
  | t :: ts => putsL (putL' l last t) t ts
def lastOf (last : ByteArray) : List ByteArray → ByteArray
  | [] => last
  | t :: ts => lastOf t ts
theorem putsL_app (l : List UInt8) (last : ByteArray) (ts us : List ByteArray) : putsL l last (ts ++ us) = putsL (putsL l last ts) (lastOf last ts) us := by
  induction ts generalizing l last with
  | nil => rfl
  | cons t ts ih => simp only [List.cons_append, putsL, lastOf, ih]
theorem lastOf_app (last : ByteArray) (ts us : List ByteArray) : lastOf last (ts ++ us) = lastOf (lastOf last ts) us := by
  induction ts generalizing last with
  | nil => rfl
  | cons t ts ih => simp only [List.cons_append, lastOf, ih]
theorem putL_len (l : List UInt8) (last t : ByteArray) : (putL' l last t).length ≤ l.length + 1 + t.size := by
  unfold putL'
  split <;> simp <;> omega
theorem putsL_len (l : List UInt8) (last : ByteArray) (ts : List ByteArray) (h : ∀ t ∈ ts, t.size ≤ 1000) : (putsL l last ts).length ≤ l.length + ts.length * 1001 := by
  induction ts generalizing l last with
  | nil => simp [putsL]
  | cons t ts ih =>
    have h1 := ih (putL' l last t) t (fun x hx => h x (List.mem_cons_of_mem _ hx))
    have h2 := putL_len l last t
    have h3 := h t (List.mem_cons_self ..)
    simp only [putsL, List.length_cons] at *
    omega
def PutsRel (B pb : Nat) (l : List UInt8) (last : ByteArray) (ts : List ByteArray) (mv : Value) (w : World) (gk : Nat) (v : Value) (wr : World) : Prop :=
  ∃ (j : Nat) (bv' : Value), Hid (gk = ts.length - j) ∧ j ≤ ts.length ∧ v = .int .i64 (j : Int) ∧ PN wr B pb bv' (putsL l last (ts.take j)) (lastOf last (ts.take j)) mv ∧ FN B pb w wr
section
variable {w : World} {B pb : Nat} {bv : Value} {l : List UInt8} {last : ByteArray} {mv : Value}
set_option maxRecDepth 100000 in
set_option maxHeartbeats 2000000 in
theorem puts_C (h : PN w B pb bv l last mv) (ts : List ByteArray) (ht : ∀ t ∈ ts, t.size ≤ 1000) (hn : ts.length ≤ 10) (hl : l.length ≤ 850000) (g : Nat) (hg : Bx w g (ts.map Value.string).toArray) (hgp : g ≠ pb) (hgn : g < B ∨ Nby w g) :
    Calls Tryz.prog 80 #[.pointer (some ⟨pb, 0, none⟩), .slice (some ⟨g, 0, none⟩) ts.length ts.length] w fun e w' => e = .returned (.tuple #[]) ∧ ∃ bv', PN w' B pb bv' (putsL l last ts) (lastOf last ts) mv ∧ FN B pb w w' := by
  have HN := hide h
  have HG := hide hg
  have Hgn := hide hgn
  clear h hg hgn
  go_enter Tryz.func80, Tryz.ntmps80
  go_wp2_with fail
  go_loopg [8] ts.length (fun gk v wr => PutsRel B pb l last ts mv w gk v wr)
  case atStart => exact ⟨0, bv, hide rfl, Nat.zero_le _, rfl, unhide HN, FN.refl _ _ _⟩
  case round =>
    obtain ⟨j, bv', hgk, hj, rfl, N, F⟩ := hrel
    by_cases hjl : j < ts.length
    · have hd : (j : Int) < (ts.length : Int) := by omega
      have hmem := ht _ (List.getElem_mem hjl)
      have hG := (unhide HG).fn hgp (unhide Hgn) F
      have cg : wr.cell? ⟨g, j, none⟩ = some (.string ts[j]) := by rw [hG.c j]; simp [hjl]
      have hlen := putsL_len l last (ts.take j) (fun t q => ht t (List.mem_of_mem_take q))
      simp only [List.length_take] at hlen
      have htk : ts.take (j + 1) = ts.take j ++ [ts[j]] := by rw [List.take_add_one, List.getElem?_eq_getElem hjl]; rfl
      have htk1 := hide (show putsL l last (ts.take (j + 1)) = putL' (putsL l last (ts.take j)) (lastOf last (ts.take j)) ts[j] by rw [htk, putsL_app]; rfl)
      have htk2 := hide (show lastOf last (ts.take (j + 1)) = ts[j] by rw [htk, lastOf_app]; rfl)
      obtain ⟨c2, f2⟩ := N.cells
      have HN := hide N
      have HF := hide F
      clear N F hG htk
      generalize putsL l last (ts.take j) = lj at HN hlen htk1 c2
      generalize lastOf last (ts.take j) = lastj at HN htk1 c2
      generalize hu : ts[j] = tj at cg hmem htk1 htk2
      clear hu
      have hm9 : min j ts.length ≤ 10 := by omega
      by_cases hsp : spB lastj tj = true
      · go_wp2_with (first | (go_at_call 132; refine (spaced_C lastj tj).mono ?_; rw [hsp]; rintro e w' ⟨rfl, rfl⟩) | (go_at_call 84; refine (writeByte_C (unhide HN) 32 (by omega)).mono ?_; rintro e w1 ⟨rfl, bv1, hN1, hF1⟩; have HN1 := hide hN1; have HF1 := hide ((unhide HF).trans (Fr.fn (unhide HN) hF1)); clear hN1 hF1) | (go_at_call 133; refine (writeString_C (unhide HN1) tj (by omega) (by simp; omega)).mono ?_; rintro e w2 ⟨rfl, bv2, hN2, hF2⟩; have HN2 := hide hN2; have HF2 := hide ((unhide HF1).trans (Fr.fn (unhide HN1) hF2)); obtain ⟨c3, f3⟩ := hN2.cells; clear hN2 hF2))
        go_roundg (ts.length - (j + 1))
        case measure => rw [unhide hgk]; omega
        case rel => exact ⟨j + 1, bv2, hide rfl, by omega, by go_num, by rw [unhide htk1, unhide htk2]; unfold putL'; rw [if_pos hsp]; exact (unhide HN2).last_ tj, (unhide HF2).trans (FN.last_ _ _ _ _)⟩
      · have hsp' : spB lastj tj = false := by simpa using hsp
        go_wp2_with (first | (go_at_call 132; refine (spaced_C lastj tj).mono ?_; rw [hsp']; rintro e w' ⟨rfl, rfl⟩) | (go_at_call 133; refine (writeString_C (unhide HN) tj (by omega) (by omega)).mono ?_; rintro e w2 ⟨rfl, bv2, hN2, hF2⟩; have HN2 := hide hN2; have HF2 := hide ((unhide HF).trans (Fr.fn (unhide HN) hF2)); obtain ⟨c3, f3⟩ := hN2.cells; clear hN2 hF2))
        go_roundg (ts.length - (j + 1))
        case measure => rw [unhide hgk]; omega
        case rel => exact ⟨j + 1, bv2, hide rfl, by omega, by go_num, by rw [unhide htk1, unhide htk2]; unfold putL'; rw [if_neg hsp, List.append_nil]; exact (unhide HN2).last_ tj, (unhide HF2).trans (FN.last_ _ _ _ _)⟩
    · have hd : decide ((j : Int) < (ts.length : Int)) = false := by simp; omega
      have ej : j = ts.length := by omega
      subst ej
      rw [List.take_length] at N
      go_wp2_with fail
      go_end0
      exact ⟨rfl, bv', N, F⟩
end
end Go.Proofs.YteneoapickhpdaaGreatDoor
namespace Go.Proofs.YteneoapickhpdaaGreatDoor
open Go Go.RowKit Go.ChangeMaps Un
abbrev opW (a b c d : Nat) : Value := .func (.func 130) #[] #[.pointer (some ⟨a, 0, none⟩), .pointer (some ⟨b, 0, none⟩), .pointer (some ⟨c, 0, none⟩), .pointer (some ⟨d, 0, none⟩)]
/-- How tightly each operator holds, and its sides must. -/
def opN (i j : Nat) : Nat := ([[0, 1, 1], [1, 1, 2], [1, 1, 2], [2, 2, 3]].getD i []).getD j 0
def opB (pb i j : Nat) : Value := if j = 0 then .pointer (some ⟨pb, 0, none⟩) else .int .i64 ((opN i (j - 1) : Nat) : Int)
/-- The pen's table of operators. -/
def PM (w : World) (pb : Nat) (mv : Value) : Prop :=
  ∃ (mb : Nat) (x : Nat → Nat → Nat), mv = .map (some mb) ∧ mb ≠ pb ∧ MS Value.string w mb [(kLess, opW (x 0 0) (x 0 1) (x 0 2) (x 0 3)), (kPlus, opW (x 1 0) (x 1 1) (x 1 2) (x 1 3)), (kMinus, opW (x 2 0) (x 2 1) (x 2 2) (x 2 3)), (kStar, opW (x 3 0) (x 3 1) (x 3 2) (x 3 3))] ∧ ∀ i j, i < 4 → j < 4 → x i j ≠ pb ∧ Bx w (x i j) #[opB pb i j]
theorem opB_nby (pb i j : Nat) (y : Value) (h : (#[opB pb i j] : Array Value)[0]? = some y) (c : Int) : y ≠ .int .u8 c := by
  simp at h
  subst h
  unfold opB
  split <;> (intro q; cases q)
theorem PM.fn {B pb : Nat} {w w' : World} {mv : Value} (h : PM w pb mv) (hf : FN B pb w w') : PM w' pb mv := by
  obtain ⟨mb, x, e, hn, hM, hB⟩ := h
  refine ⟨mb, x, e, hn, hM.same (hf.block mb hM.lt hn (Or.inr ?_)), fun i j hi hj => ⟨(hB i j hi hj).1, hf.pn_ne (hB i j hi hj).2 (hB i j hi hj).1 (opB_nby pb i j)⟩⟩
  obtain ⟨es, clock, hb, _⟩ := hM
  intro y hy c
  simp [World.cell?, hb] at hy
section
variable {w : World} {B pb : Nat} {bv : Value} {l : List UInt8} {last : ByteArray} {mv : Value}
set_option maxRecDepth 100000 in
set_option maxHeartbeats 2000000 in
theorem penOp_X (p x y z : Nat) : Calls Tryz.prog 79 #[.pointer (some ⟨p, 0, none⟩), .int .i64 (x : Int), .int .i64 (y : Int), .int .i64 (z : Int)] w fun e w' => ∃ a b c d, e = .returned (opW a b c d) ∧ w.heap.size ≤ a ∧ w.heap.size ≤ b ∧ w.heap.size ≤ c ∧ w.heap.size ≤ d ∧ Bx w' a #[.pointer (some ⟨p, 0, none⟩)] ∧ Bx w' b #[.int .i64 (x : Int)] ∧ Bx w' c #[.int .i64 (y : Int)] ∧ Bx w' d #[.int .i64 (z : Int)] ∧ Below w.heap.size w w' := by
  have hmf : ∀ (fn : Fn) (first cap : Array Value) (w : World), (Instr.makeFunc fn first cap).run Tryz.prog w = .ok (.func fn first cap) w := fun _ _ _ _ => rfl
  go_enter Tryz.func79, Tryz.ntmps79
  go_wp2_with fail
  go_ret
  refine ⟨w.heap.size, w.heap.size + 1, w.heap.size + 2, w.heap.size + 3, rfl, Nat.le_refl _, by omega, by omega, by omega, ?_, ?_, ?_, ?_, ((((Below.refl _ _).alloc (Nat.le_refl _) _).alloc (by simp) _).alloc (by simp; omega) _).alloc (by simp; omega) _⟩
  · exact (((Bx.new w #[.pointer (some ⟨p, 0, none⟩)] _).alloc _).alloc _).alloc _
  · exact ((Bx.at _ #[.int .i64 (x : Int)] _ _ (by simp)).alloc _).alloc _
  · exact (Bx.at _ #[.int .i64 (y : Int)] _ _ (by simp)).alloc _
  · exact Bx.at _ #[.int .i64 (z : Int)] _ _ (by simp)
set_option maxRecDepth 100000 in
set_option maxHeartbeats 2000000 in
theorem penRules_X (p : Nat) : Calls Tryz.prog 48 #[.pointer (some ⟨p, 0, none⟩)] w fun e w' => ∃ (mb : Nat) (x : Nat → Nat → Nat), e = .returned (.map (some mb)) ∧ w.heap.size ≤ mb ∧ MS Value.string w' mb [(kLess, opW (x 0 0) (x 0 1) (x 0 2) (x 0 3)), (kPlus, opW (x 1 0) (x 1 1) (x 1 2) (x 1 3)), (kMinus, opW (x 2 0) (x 2 1) (x 2 2) (x 2 3)), (kStar, opW (x 3 0) (x 3 1) (x 3 2) (x 3 3))] ∧ (∀ i j, i < 4 → j < 4 → w.heap.size ≤ x i j ∧ Bx w' (x i j) #[opB p i j]) ∧ Below w.heap.size w w' := by
  have H := hide (Ma.new (w := w))
  have HB := hide ((Below.refl w.heap.size w).alloc (Nat.le_refl _) (.map #[] 0))
  have hmm := @run_makeMap Tryz.prog
  go_enter Tryz.func48, Tryz.ntmps48
  go_wp2_with fail
  refine (penOp_X p 0 1 1).mono ?_
  intro e w1 hp
  obtain ⟨a0, b0, c0, d0, rfl, ha, hb', hc, hd, ya, yb, yc, yd, hb⟩ := hp
  have la0 := Nat.lt_of_lt_of_le (unhide H).lt ha
  have lb0 := Nat.lt_of_lt_of_le (unhide H).lt hb'
  have lc0 := Nat.lt_of_lt_of_le (unhide H).lt hc
  have ld0 := Nat.lt_of_lt_of_le (unhide H).lt hd
  have Xa0 := hide ya
  have Xb0 := hide yb
  have Xc0 := hide yc
  have Xd0 := hide yd
  have H := hide ((unhide H).below hb)
  have HB := hide ((unhide HB).trans (hb.mono (unhide HB).size))
  clear hb ha hb' hc hd ya yb yc yd
  go_wp2_with (refine wpList_put _ rfl _ _ _ _ (Or.inl rfl) (KL.str Tryz.underlying9) Tryz.underlying75 _ _ rfl (unhide H) _ _ rfl rfl trivial (fun _ _ => trivial) ?_; clear H; intro w' H' O'; have H := hide H'; have HB := hide (One.below (unhide HB) O' (by exact Nat.le_refl _)); have Xa0 := hide ((unhide Xa0).one O' (Nat.ne_of_gt la0)); have Xb0 := hide ((unhide Xb0).one O' (Nat.ne_of_gt lb0)); have Xc0 := hide ((unhide Xc0).one O' (Nat.ne_of_gt lc0)); have Xd0 := hide ((unhide Xd0).one O' (Nat.ne_of_gt ld0));  clear H' O')
  refine (penOp_X p 1 1 2).mono ?_
  intro e w2 hp
  obtain ⟨a1, b1, c1, d1, rfl, ha, hb', hc, hd, ya, yb, yc, yd, hb⟩ := hp
  have la1 := Nat.lt_of_lt_of_le (unhide H).lt ha
  have lb1 := Nat.lt_of_lt_of_le (unhide H).lt hb'
  have lc1 := Nat.lt_of_lt_of_le (unhide H).lt hc
  have ld1 := Nat.lt_of_lt_of_le (unhide H).lt hd
  have Xa0 := hide ((unhide Xa0).below hb)
  have Xb0 := hide ((unhide Xb0).below hb)
  have Xc0 := hide ((unhide Xc0).below hb)
  have Xd0 := hide ((unhide Xd0).below hb)
  have Xa1 := hide ya
  have Xb1 := hide yb
  have Xc1 := hide yc
  have Xd1 := hide yd
  have H := hide ((unhide H).below hb)
  have HB := hide ((unhide HB).trans (hb.mono (unhide HB).size))
  clear hb ha hb' hc hd ya yb yc yd
  go_wp2_with (refine wpList_put _ rfl _ _ _ _ (Or.inl rfl) (KL.str Tryz.underlying9) Tryz.underlying75 _ _ rfl (unhide H) _ _ rfl rfl trivial (fun _ _ => trivial) ?_; clear H; intro w' H' O'; have H := hide H'; have HB := hide (One.below (unhide HB) O' (by exact Nat.le_refl _)); have Xa0 := hide ((unhide Xa0).one O' (Nat.ne_of_gt la0)); have Xb0 := hide ((unhide Xb0).one O' (Nat.ne_of_gt lb0)); have Xc0 := hide ((unhide Xc0).one O' (Nat.ne_of_gt lc0)); have Xd0 := hide ((unhide Xd0).one O' (Nat.ne_of_gt ld0)); have Xa1 := hide ((unhide Xa1).one O' (Nat.ne_of_gt la1)); have Xb1 := hide ((unhide Xb1).one O' (Nat.ne_of_gt lb1)); have Xc1 := hide ((unhide Xc1).one O' (Nat.ne_of_gt lc1)); have Xd1 := hide ((unhide Xd1).one O' (Nat.ne_of_gt ld1));  clear H' O')
  refine (penOp_X p 1 1 2).mono ?_
  intro e w3 hp
  obtain ⟨a2, b2, c2, d2, rfl, ha, hb', hc, hd, ya, yb, yc, yd, hb⟩ := hp
  have la2 := Nat.lt_of_lt_of_le (unhide H).lt ha
  have lb2 := Nat.lt_of_lt_of_le (unhide H).lt hb'
  have lc2 := Nat.lt_of_lt_of_le (unhide H).lt hc
  have ld2 := Nat.lt_of_lt_of_le (unhide H).lt hd
  have Xa0 := hide ((unhide Xa0).below hb)
  have Xb0 := hide ((unhide Xb0).below hb)
  have Xc0 := hide ((unhide Xc0).below hb)
  have Xd0 := hide ((unhide Xd0).below hb)
  have Xa1 := hide ((unhide Xa1).below hb)
  have Xb1 := hide ((unhide Xb1).below hb)
  have Xc1 := hide ((unhide Xc1).below hb)
  have Xd1 := hide ((unhide Xd1).below hb)
  have Xa2 := hide ya
  have Xb2 := hide yb
  have Xc2 := hide yc
  have Xd2 := hide yd
  have H := hide ((unhide H).below hb)
  have HB := hide ((unhide HB).trans (hb.mono (unhide HB).size))
  clear hb ha hb' hc hd ya yb yc yd
  go_wp2_with (refine wpList_put _ rfl _ _ _ _ (Or.inl rfl) (KL.str Tryz.underlying9) Tryz.underlying75 _ _ rfl (unhide H) _ _ rfl rfl trivial (fun _ _ => trivial) ?_; clear H; intro w' H' O'; have H := hide H'; have HB := hide (One.below (unhide HB) O' (by exact Nat.le_refl _)); have Xa0 := hide ((unhide Xa0).one O' (Nat.ne_of_gt la0)); have Xb0 := hide ((unhide Xb0).one O' (Nat.ne_of_gt lb0)); have Xc0 := hide ((unhide Xc0).one O' (Nat.ne_of_gt lc0)); have Xd0 := hide ((unhide Xd0).one O' (Nat.ne_of_gt ld0)); have Xa1 := hide ((unhide Xa1).one O' (Nat.ne_of_gt la1)); have Xb1 := hide ((unhide Xb1).one O' (Nat.ne_of_gt lb1)); have Xc1 := hide ((unhide Xc1).one O' (Nat.ne_of_gt lc1)); have Xd1 := hide ((unhide Xd1).one O' (Nat.ne_of_gt ld1)); have Xa2 := hide ((unhide Xa2).one O' (Nat.ne_of_gt la2)); have Xb2 := hide ((unhide Xb2).one O' (Nat.ne_of_gt lb2)); have Xc2 := hide ((unhide Xc2).one O' (Nat.ne_of_gt lc2)); have Xd2 := hide ((unhide Xd2).one O' (Nat.ne_of_gt ld2));  clear H' O')
  refine (penOp_X p 2 2 3).mono ?_
  intro e w4 hp
  obtain ⟨a3, b3, c3, d3, rfl, ha, hb', hc, hd, ya, yb, yc, yd, hb⟩ := hp
  have la3 := Nat.lt_of_lt_of_le (unhide H).lt ha
  have lb3 := Nat.lt_of_lt_of_le (unhide H).lt hb'
  have lc3 := Nat.lt_of_lt_of_le (unhide H).lt hc
  have ld3 := Nat.lt_of_lt_of_le (unhide H).lt hd
  have Xa0 := hide ((unhide Xa0).below hb)
  have Xb0 := hide ((unhide Xb0).below hb)
  have Xc0 := hide ((unhide Xc0).below hb)
  have Xd0 := hide ((unhide Xd0).below hb)
  have Xa1 := hide ((unhide Xa1).below hb)
  have Xb1 := hide ((unhide Xb1).below hb)
  have Xc1 := hide ((unhide Xc1).below hb)
  have Xd1 := hide ((unhide Xd1).below hb)
  have Xa2 := hide ((unhide Xa2).below hb)
  have Xb2 := hide ((unhide Xb2).below hb)
  have Xc2 := hide ((unhide Xc2).below hb)
  have Xd2 := hide ((unhide Xd2).below hb)
  have Xa3 := hide ya
  have Xb3 := hide yb
  have Xc3 := hide yc
  have Xd3 := hide yd
  have H := hide ((unhide H).below hb)
  have HB := hide ((unhide HB).trans (hb.mono (unhide HB).size))
  clear hb ha hb' hc hd ya yb yc yd
  go_wp2_with (refine wpList_put _ rfl _ _ _ _ (Or.inl rfl) (KL.str Tryz.underlying9) Tryz.underlying75 _ _ rfl (unhide H) _ _ rfl rfl trivial (fun _ _ => trivial) ?_; clear H; intro w' H' O'; have H := hide H'; have HB := hide (One.below (unhide HB) O' (by exact Nat.le_refl _)); have Xa0 := hide ((unhide Xa0).one O' (Nat.ne_of_gt la0)); have Xb0 := hide ((unhide Xb0).one O' (Nat.ne_of_gt lb0)); have Xc0 := hide ((unhide Xc0).one O' (Nat.ne_of_gt lc0)); have Xd0 := hide ((unhide Xd0).one O' (Nat.ne_of_gt ld0)); have Xa1 := hide ((unhide Xa1).one O' (Nat.ne_of_gt la1)); have Xb1 := hide ((unhide Xb1).one O' (Nat.ne_of_gt lb1)); have Xc1 := hide ((unhide Xc1).one O' (Nat.ne_of_gt lc1)); have Xd1 := hide ((unhide Xd1).one O' (Nat.ne_of_gt ld1)); have Xa2 := hide ((unhide Xa2).one O' (Nat.ne_of_gt la2)); have Xb2 := hide ((unhide Xb2).one O' (Nat.ne_of_gt lb2)); have Xc2 := hide ((unhide Xc2).one O' (Nat.ne_of_gt lc2)); have Xd2 := hide ((unhide Xd2).one O' (Nat.ne_of_gt ld2)); have Xa3 := hide ((unhide Xa3).one O' (Nat.ne_of_gt la3)); have Xb3 := hide ((unhide Xb3).one O' (Nat.ne_of_gt lb3)); have Xc3 := hide ((unhide Xc3).one O' (Nat.ne_of_gt lc3)); have Xd3 := hide ((unhide Xd3).one O' (Nat.ne_of_gt ld3));  clear H' O')
  go_ret
  refine ⟨_, fun i j => ([[a0, b0, c0, d0], [a1, b1, c1, d1], [a2, b2, c2, d2], [a3, b3, c3, d3]].getD i []).getD j 0, rfl, Nat.le_refl _, unhide H, ?_, unhide HB⟩
  intro i j hi hj
  match i, hi, j, hj with
  | 0, _, 0, _ => exact ⟨Nat.le_of_lt la0, unhide Xa0⟩
  | 0, _, 1, _ => exact ⟨Nat.le_of_lt lb0, unhide Xb0⟩
  | 0, _, 2, _ => exact ⟨Nat.le_of_lt lc0, unhide Xc0⟩
  | 0, _, 3, _ => exact ⟨Nat.le_of_lt ld0, unhide Xd0⟩
  | 1, _, 0, _ => exact ⟨Nat.le_of_lt la1, unhide Xa1⟩
  | 1, _, 1, _ => exact ⟨Nat.le_of_lt lb1, unhide Xb1⟩
  | 1, _, 2, _ => exact ⟨Nat.le_of_lt lc1, unhide Xc1⟩
  | 1, _, 3, _ => exact ⟨Nat.le_of_lt ld1, unhide Xd1⟩
  | 2, _, 0, _ => exact ⟨Nat.le_of_lt la2, unhide Xa2⟩
  | 2, _, 1, _ => exact ⟨Nat.le_of_lt lb2, unhide Xb2⟩
  | 2, _, 2, _ => exact ⟨Nat.le_of_lt lc2, unhide Xc2⟩
  | 2, _, 3, _ => exact ⟨Nat.le_of_lt ld2, unhide Xd2⟩
  | 3, _, 0, _ => exact ⟨Nat.le_of_lt la3, unhide Xa3⟩
  | 3, _, 1, _ => exact ⟨Nat.le_of_lt lb3, unhide Xb3⟩
  | 3, _, 2, _ => exact ⟨Nat.le_of_lt lc3, unhide Xc3⟩
  | 3, _, 3, _ => exact ⟨Nat.le_of_lt ld3, unhide Xd3⟩
set_option maxRecDepth 100000 in
set_option maxHeartbeats 2000000 in
theorem newPen_X : Calls Tryz.prog 27 #[] w fun e w' => e = .returned (.pointer (some ⟨w.heap.size, 0, none⟩)) ∧ (∃ mv, PN w' w.heap.size w.heap.size (.slice none 0 0) [] ⟨#[]⟩ mv ∧ PM w' w.heap.size mv) ∧ Below w.heap.size w w' := by
  have hb0 : Below w.heap.size w (w.alloc (.cells #[.pointer none, .slice none 0 0, .string ⟨#[]⟩, .map none] 77)) := (Below.refl _ _).alloc (Nat.le_refl _) _
  have h0 : (w.alloc (.cells #[.pointer none, .slice none 0 0, .string ⟨#[]⟩, .map none] 77)).heap[w.heap.size]? = some (.cells #[.pointer none, .slice none 0 0, .string ⟨#[]⟩, .map none] 77 (0, 0)) := (MapKept.heap_alloc w _).1
  have H0 := hide h0
  have hz : (w.alloc (.cells #[.pointer none, .slice none 0 0, .string ⟨#[]⟩, .map none] 77)).heap.size = w.heap.size + 1 := by simp
  clear h0
  go_enter Tryz.func27, Tryz.ntmps27
  go_wp2_with fail
  refine (penRules_X w.heap.size).mono ?_
  rintro e w1 ⟨mb, x, rfl, hle, hM, hX, hb⟩
  have h1 : w1.heap[w.heap.size]? = some (.cells #[.pointer none, .slice none 0 0, .string ⟨#[]⟩, .map none] 77 (0, 0)) := (hb.block _ (by simp)).trans (unhide H0)
  have c3 : w1.cell? ⟨w.heap.size, 3, none⟩ = some (.map none) := (by simp [World.cell?, h1])
  have f3 : w1.frozen? ⟨w.heap.size, 3, none⟩ = false := (by simp [World.frozen?, h1])
  have H1 := hide h1
  have HB1 := hide (hb0.trans (hb.mono hb0.size))
  rw [hz] at hle hX
  have HM := hide hM
  have HX := hide hX
  clear h1 hb hM hX
  go_wp2_with fail
  go_ret
  have hzz := (unhide HB1).size
  refine ⟨rfl, ⟨.map (some mb), ⟨⟨_, (setCell_heap (unhide H1) 3 _).trans (by simp), Or.inl rfl⟩, ⟨rfl, Or.inl ⟨rfl, rfl⟩⟩, fun _ => rfl, by simp [World.setCell]; exact hzz⟩, mb, x, rfl, by omega, (unhide HM).setC (by omega) 3 _, fun i j hi hj => ?_⟩, (unhide HB1).setCell (p := ⟨w.heap.size, 3, none⟩) (Nat.le_refl _) _⟩
  have := unhide HX i j hi hj
  exact ⟨by omega, this.2.setO'' (by omega) 3 _⟩
set_option maxRecDepth 100000 in
set_option maxHeartbeats 2000000 in
theorem group2_X {F b0 b1 : Nat} {d : Bool} {txt : List UInt8} (I : World → Prop) (hI : ∀ w w', I w → FN B pb w w' → I w') (hcf : ∀ args w, (callFunc F args).run Tryz.prog w = .ok (.enter F args) w)
    (HC : ∀ w bv l last, PN w B pb bv l last mv → I w → (l ++ (sep last ++ txt)).length ≤ 800000 → Calls Tryz.prog F #[.pointer (some ⟨b0, 0, none⟩), .pointer (some ⟨b1, 0, none⟩)] w (AtPost B pb mv (l ++ (sep last ++ txt)) w))
    (h : PN w B pb bv l last mv) (hi : I w) (hl : (l ++ (sep last ++ Un.par d txt)).length ≤ 800000) :
    Calls Tryz.prog 63 #[.pointer (some ⟨pb, 0, none⟩), .bool d, .func (.func F) #[] #[.pointer (some ⟨b0, 0, none⟩), .pointer (some ⟨b1, 0, none⟩)]] w (AtPost B pb mv (l ++ (sep last ++ Un.par d txt)) w) := by
  cases d with
  | false =>
    rw [par_f] at hl ⊢
    have HC1 := HC w bv l last h hi hl
    clear HC
    go_enter Tryz.func63, Tryz.ntmps63
    go_wp2_with fail
    refine HC1.mono ?_
    intro e w1 hp1
    have hp2 := hp1
    obtain ⟨rfl, _⟩ := hp1
    go_wp2_with fail
    go_end0
    exact hp2
  | true =>
    rw [par_t] at hl ⊢
    simp only [List.length_cons, List.length_append, List.length_nil] at hl
    have hzp := h.lt
    have hb0 : Below w.heap.size w (w.alloc (.cells #[.string tOpen] 9)) := (Below.refl _ _).alloc (Nat.le_refl _) _
    have HP := put_C (h.bel hb0) tOpen (by decide) (by omega) w.heap.size (Bx.new w #[.string tOpen] 9) (by omega)
    have hpt : putL' l last tOpen = l ++ (sep last ++ [40]) := by
      have := put_type (l := l) (last := last) (t := tOpen) (by rw [show tOpen.toList = [40] from toList_mk [40]]; decide) (by rw [show tOpen.toList = [40] from toList_mk [40]]; decide) (by rw [show tOpen.toList = [40] from toList_mk [40]]; decide)
      rw [this, show tOpen.toList = [40] from toList_mk [40]]
    rw [hpt] at HP
    go_enter Tryz.func63, Tryz.ntmps63
    go_wp2_with fail
    refine HP.mono ?_
    rintro e w1 ⟨rfl, bv1, N1, F1⟩
    have FA := (FN.of (B := B) (pb := pb) hb0).trans F1
    have HC1 := HC w1 bv1 _ tOpen N1 (hI _ _ hi FA) (by simp only [List.length_append, List.length_cons, List.length_nil, sep_open]; omega)
    rw [sep_open] at HC1
    clear HC
    go_wp2_with fail
    refine HC1.mono ?_
    rintro e w2 ⟨rfl, bv2, last2, N2, fi2, F2⟩
    have hzp2 := N2.lt
    have hb2 : Below w2.heap.size w2 (w2.alloc (.cells #[.string tClose] 9)) := (Below.refl _ _).alloc (Nat.le_refl _) _
    have HP2 := put_C (N2.bel hb2) tClose (by decide) (by simp only [List.length_append, List.length_cons, List.length_nil, sep_open]; omega) w2.heap.size (Bx.new w2 #[.string tClose] 9) (by omega)
    rw [put_tight (Or.inl (toList_mk [41])), show tClose.toList = [41] from toList_mk [41]] at HP2
    go_wp2_with fail
    refine HP2.mono ?_
    rintro e w3 ⟨rfl, bv3, N3, F3⟩
    go_wp2_with fail
    go_end0
    refine ⟨rfl, bv3, tClose, ?_, ⟨by rw [show tClose.toList = [41] from toList_mk [41]]; decide, by rw [show tClose.toList = [41] from toList_mk [41]]; decide⟩, (FA.trans F2).trans ((FN.of hb2).trans F3)⟩
    have e9 : l ++ (sep last ++ [40]) ++ ([] ++ txt) ++ [41] = l ++ (sep last ++ 40 :: (txt ++ [41])) := by simp
    rw [← e9]
    exact N3
set_option maxRecDepth 100000 in
set_option maxHeartbeats 2000000 in
theorem group4_X {F b0 b1 b2 b3 : Nat} {d : Bool} {txt : List UInt8} (I : World → Prop) (hI : ∀ w w', I w → FN B pb w w' → I w') (hcf : ∀ args w, (callFunc F args).run Tryz.prog w = .ok (.enter F args) w)
    (HC : ∀ w bv l last, PN w B pb bv l last mv → I w → (l ++ (sep last ++ txt)).length ≤ 800000 → Calls Tryz.prog F #[.pointer (some ⟨b0, 0, none⟩), .pointer (some ⟨b1, 0, none⟩), .pointer (some ⟨b2, 0, none⟩), .pointer (some ⟨b3, 0, none⟩)] w (AtPost B pb mv (l ++ (sep last ++ txt)) w))
    (h : PN w B pb bv l last mv) (hi : I w) (hl : (l ++ (sep last ++ Un.par d txt)).length ≤ 800000) :
    Calls Tryz.prog 63 #[.pointer (some ⟨pb, 0, none⟩), .bool d, .func (.func F) #[] #[.pointer (some ⟨b0, 0, none⟩), .pointer (some ⟨b1, 0, none⟩), .pointer (some ⟨b2, 0, none⟩), .pointer (some ⟨b3, 0, none⟩)]] w (AtPost B pb mv (l ++ (sep last ++ Un.par d txt)) w) := by
  cases d with
  | false =>
    rw [par_f] at hl ⊢
    have HC1 := HC w bv l last h hi hl
    clear HC
    go_enter Tryz.func63, Tryz.ntmps63
    go_wp2_with fail
    refine HC1.mono ?_
    intro e w1 hp1
    have hp2 := hp1
    obtain ⟨rfl, _⟩ := hp1
    go_wp2_with fail
    go_end0
    exact hp2
  | true =>
    rw [par_t] at hl ⊢
    simp only [List.length_cons, List.length_append, List.length_nil] at hl
    have hzp := h.lt
    have hb0 : Below w.heap.size w (w.alloc (.cells #[.string tOpen] 9)) := (Below.refl _ _).alloc (Nat.le_refl _) _
    have HP := put_C (h.bel hb0) tOpen (by decide) (by omega) w.heap.size (Bx.new w #[.string tOpen] 9) (by omega)
    have hpt : putL' l last tOpen = l ++ (sep last ++ [40]) := by
      have := put_type (l := l) (last := last) (t := tOpen) (by rw [show tOpen.toList = [40] from toList_mk [40]]; decide) (by rw [show tOpen.toList = [40] from toList_mk [40]]; decide) (by rw [show tOpen.toList = [40] from toList_mk [40]]; decide)
      rw [this, show tOpen.toList = [40] from toList_mk [40]]
    rw [hpt] at HP
    go_enter Tryz.func63, Tryz.ntmps63
    go_wp2_with fail
    refine HP.mono ?_
    rintro e w1 ⟨rfl, bv1, N1, F1⟩
    have FA := (FN.of (B := B) (pb := pb) hb0).trans F1
    have HC1 := HC w1 bv1 _ tOpen N1 (hI _ _ hi FA) (by simp only [List.length_append, List.length_cons, List.length_nil, sep_open]; omega)
    rw [sep_open] at HC1
    clear HC
    go_wp2_with fail
    refine HC1.mono ?_
    rintro e w2 ⟨rfl, bv2, last2, N2, fi2, F2⟩
    have hzp2 := N2.lt
    have hb2 : Below w2.heap.size w2 (w2.alloc (.cells #[.string tClose] 9)) := (Below.refl _ _).alloc (Nat.le_refl _) _
    have HP2 := put_C (N2.bel hb2) tClose (by decide) (by simp only [List.length_append, List.length_cons, List.length_nil, sep_open]; omega) w2.heap.size (Bx.new w2 #[.string tClose] 9) (by omega)
    rw [put_tight (Or.inl (toList_mk [41])), show tClose.toList = [41] from toList_mk [41]] at HP2
    go_wp2_with fail
    refine HP2.mono ?_
    rintro e w3 ⟨rfl, bv3, N3, F3⟩
    go_wp2_with fail
    go_end0
    refine ⟨rfl, bv3, tClose, ?_, ⟨by rw [show tClose.toList = [41] from toList_mk [41]]; decide, by rw [show tClose.toList = [41] from toList_mk [41]]; decide⟩, (FA.trans F2).trans ((FN.of hb2).trans F3)⟩
    have e9 : l ++ (sep last ++ [40]) ++ ([] ++ txt) ++ [41] = l ++ (sep last ++ 40 :: (txt ++ [41])) := by simp
    rw [← e9]
    exact N3
end
end Go.Proofs.YteneoapickhpdaaGreatDoor
namespace Go.Proofs.YteneoapickhpdaaGreatDoor
open Go Go.RowKit Go.ChangeMaps Un
theorem putLoose {l : List UInt8} {last t : ByteArray} {bs : List UInt8} (h : t.toList = bs) (h1 : bs ≠ [41]) (h2 : bs ≠ [44]) (h3 : bs ≠ [59]) : putL' l last t = l ++ (sep last ++ bs) := by
  rw [put_type (by rw [h]; exact h1) (by rw [h]; exact h2) (by rw [h]; exact h3), h]
theorem putTight {l : List UInt8} {last t : ByteArray} {bs : List UInt8} (h : t.toList = bs) (h' : bs = [41] ∨ bs = [44] ∨ bs = [59]) : putL' l last t = l ++ bs := by
  unfold putL' spB
  rw [show t.data.toList = t.toList from (ByteArray.toList_eq t).symm, h]
  rcases h' with rfl | rfl | rfl <;> simp
theorem sepTok {t : ByteArray} {bs : List UInt8} (h : t.toList = bs) (h1 : bs ≠ []) (h2 : bs ≠ [40]) : sep t = [32] := sep_fine (fine_mk h h1 h2)
theorem sep_opn : sep kOpn = [] := sep_open
/-- What the pen leaves alone, and the table of tens with it. -/
structure NT (w : World) (pb : Nat) (Q : Nat → Prop) : Prop where
  q : NQ w pb Q
  p : P10 w
  n : 2 ≠ pb
theorem NT.fn {B pb : Nat} {w w' : World} {Q : Nat → Prop} (h : NT w pb Q) (hf : FN B pb w w') : NT w' pb Q :=
  ⟨h.q.fn hf, h.p.block hf.size (hf.block 2 h.p.z h.n (Or.inr (fun x hx c => by
    have := h.p.c 0 (by omega)
    rw [hx] at this
    injection this with this
    rw [this]
    intro q
    cases q))), h.n⟩
instance (w : World) (pb : Nat) (Q : Nat → Prop) : Coe (NT w pb Q) (NQ w pb Q) := ⟨fun h => h.q⟩
theorem PP.fnQ {B pb : Nat} {w w' : World} {Q : Nat → Prop} {nd : Nd} {v : Value} (h : PP w Q nd v) (hq : NT w pb Q) (hf : FN B pb w w') : PP w' Q nd v := h.move hf.size (fun b p z => hf.block b z (hq.q b p).2.1 (Or.inr (hq.q b p).2.2)) (fun _ p _ => p)
theorem PE.fnQ {B pb : Nat} {w w' : World} {Q : Nat → Prop} {nd : Nd} {v : Value} (h : PE w Q nd v) (hq : NT w pb Q) (hf : FN B pb w w') : PE w' Q nd v := h.move hf.size (fun b p z => hf.block b z (hq.q b p).2.1 (Or.inr (hq.q b p).2.2)) (fun _ p _ => p)
/-- None of the tokens that stand close. -/
theorem up_ne {s : ByteArray} (h : UpN s) : s.toList ≠ [41] ∧ s.toList ≠ [44] ∧ s.toList ≠ [59] := ⟨upN_ne h 41 [] (by decide), upN_ne h 44 [] (by decide), upN_ne h 59 [] (by decide)⟩
theorem lowN_ne {s : ByteArray} (h : LowN s) (c : UInt8) (r : List UInt8) (hc : Pu.lowB c.toNat = false) : s.toList ≠ c :: r := by
  obtain ⟨x, r', h1, h2⟩ := h
  rw [h1]
  intro e
  injection e with e1 _
  rw [e1, hc] at h2
  cases h2
theorem low_ne {s : ByteArray} (h : LowN s) : s.toList ≠ [41] ∧ s.toList ≠ [44] ∧ s.toList ≠ [59] := ⟨lowN_ne h 41 [] (by decide), lowN_ne h 44 [] (by decide), lowN_ne h 59 [] (by decide)⟩
theorem fine_low {s : ByteArray} (h : LowN s) : Fine s := ⟨fun e => (by obtain ⟨x, r, h1, _⟩ := h; rw [h1] at e; cases e), lowN_ne h 40 [] (by decide)⟩
/-- How a pattern holds together. -/
def prk : Nd → Nat
  | .mk k _ _ L _ _ _ => if k = 2 ∧ L ≠ [] then 0 else 1
def atPt (nd : Nd) (k : Nat) : List UInt8 := Un.par (decide (prk nd < k)) (sh nd)
theorem atPt_0 (nd : Nd) : atPt nd 0 = sh nd := by unfold atPt; rw [show decide (prk nd < 0) = false by simp]; rfl
def AtPC (nd : Nd) : Prop := ∀ (w : World) (B pb : Nat) (bv : Value) (l : List UInt8) (last : ByteArray) (mv : Value) (Q : Nat → Prop) (v : Value) (k : Nat), PN w B pb bv l last mv → PP w Q nd v → NT w pb Q → k ≤ 1 → (l ++ (sep last ++ atPt nd k)).length ≤ 800000 → B ≤ pb →
  Calls Tryz.prog 170 #[.pointer (some ⟨pb, 0, none⟩), v, .int .i64 (k : Int)] w (AtPost B pb mv (l ++ (sep last ++ atPt nd k)) w)
def BarePC (nd : Nd) : Prop := ∀ (w : World) (B pb : Nat) (bv : Value) (l : List UInt8) (last : ByteArray) (mv : Value) (Q : Nat → Prop) (v : Value), PN w B pb bv l last mv → PP w Q nd v → NT w pb Q → (l ++ (sep last ++ sh nd)).length ≤ 800000 → B ≤ pb →
  Calls Tryz.prog 184 #[.pointer (some ⟨pb, 0, none⟩), v] w (AtPost B pb mv (l ++ (sep last ++ sh nd)) w)
end Go.Proofs.YteneoapickhpdaaGreatDoor
namespace Go.Proofs.YteneoapickhpdaaGreatDoor
open Go Go.RowKit Go.ChangeMaps Un
theorem taExpr_Binary_Binary (a0 a1 a2 a3 a4 : Value) (w : World) : (Instr.typeAssert (.iface 213 (.agg #[a0, a1, a2, a3, a4])) 127 213 true).run Tryz.prog w = .ok (.tuple #[(.agg #[a0, a1, a2, a3, a4]), .bool true]) w := by kernel_rfl
theorem taExpr_Bool_Binary (x : Array Value) (w : World) : (Instr.typeAssert (.iface 201 (.agg x)) 127 213 true).run Tryz.prog w = .ok (.tuple #[.agg #[.int .i64 0, .int .i64 0, .string ⟨#[]⟩, .nilIface, .nilIface], .bool false]) w := by kernel_rfl
theorem taExpr_Bool_Bool (a0 a1 a2 : Value) (w : World) : (Instr.typeAssert (.iface 201 (.agg #[a0, a1, a2])) 127 201 true).run Tryz.prog w = .ok (.tuple #[(.agg #[a0, a1, a2]), .bool true]) w := by kernel_rfl
theorem taExpr_Bool_Call (x : Array Value) (w : World) : (Instr.typeAssert (.iface 201 (.agg x)) 127 257 true).run Tryz.prog w = .ok (.tuple #[.agg #[.int .i64 0, .int .i64 0, .nilIface, .nilIface], .bool false]) w := by kernel_rfl
theorem taExpr_Bool_Fun (x : Array Value) (w : World) : (Instr.typeAssert (.iface 201 (.agg x)) 127 228 true).run Tryz.prog w = .ok (.tuple #[.agg #[.int .i64 0, .int .i64 0, .int .i64 0, .int .i64 0, .string ⟨#[]⟩, .nilIface], .bool false]) w := by kernel_rfl
theorem taExpr_Bool_If (x : Array Value) (w : World) : (Instr.typeAssert (.iface 201 (.agg x)) 127 232 true).run Tryz.prog w = .ok (.tuple #[.agg #[.int .i64 0, .int .i64 0, .nilIface, .nilIface, .nilIface], .bool false]) w := by kernel_rfl
theorem taExpr_Bool_Let (x : Array Value) (w : World) : (Instr.typeAssert (.iface 201 (.agg x)) 127 230 true).run Tryz.prog w = .ok (.tuple #[.agg #[.int .i64 0, .int .i64 0, .bool false, .int .i64 0, .int .i64 0, .string ⟨#[]⟩, .nilIface, .nilIface], .bool false]) w := by kernel_rfl
theorem taExpr_Bool_Low (x : Array Value) (w : World) : (Instr.typeAssert (.iface 201 (.agg x)) 127 195 true).run Tryz.prog w = .ok (.tuple #[.agg #[.int .i64 0, .int .i64 0, .string ⟨#[]⟩], .bool false]) w := by kernel_rfl
theorem taExpr_Bool_Match (x : Array Value) (w : World) : (Instr.typeAssert (.iface 201 (.agg x)) 127 239 true).run Tryz.prog w = .ok (.tuple #[.agg #[.int .i64 0, .int .i64 0, .nilIface, .slice none 0 0], .bool false]) w := by kernel_rfl
theorem taExpr_Bool_Number (x : Array Value) (w : World) : (Instr.typeAssert (.iface 201 (.agg x)) 127 198 true).run Tryz.prog w = .ok (.tuple #[.agg #[.int .i64 0, .int .i64 0, .int .i64 0], .bool false]) w := by kernel_rfl
theorem taExpr_Bool_Up (x : Array Value) (w : World) : (Instr.typeAssert (.iface 201 (.agg x)) 127 240 true).run Tryz.prog w = .ok (.tuple #[.agg #[.int .i64 0, .int .i64 0, .string ⟨#[]⟩], .bool false]) w := by kernel_rfl
theorem taExpr_Call_Binary (x : Array Value) (w : World) : (Instr.typeAssert (.iface 257 (.agg x)) 127 213 true).run Tryz.prog w = .ok (.tuple #[.agg #[.int .i64 0, .int .i64 0, .string ⟨#[]⟩, .nilIface, .nilIface], .bool false]) w := by kernel_rfl
theorem taExpr_Call_Call (a0 a1 a2 a3 : Value) (w : World) : (Instr.typeAssert (.iface 257 (.agg #[a0, a1, a2, a3])) 127 257 true).run Tryz.prog w = .ok (.tuple #[(.agg #[a0, a1, a2, a3]), .bool true]) w := by kernel_rfl
theorem taExpr_Call_Fun (x : Array Value) (w : World) : (Instr.typeAssert (.iface 257 (.agg x)) 127 228 true).run Tryz.prog w = .ok (.tuple #[.agg #[.int .i64 0, .int .i64 0, .int .i64 0, .int .i64 0, .string ⟨#[]⟩, .nilIface], .bool false]) w := by kernel_rfl
theorem taExpr_Call_If (x : Array Value) (w : World) : (Instr.typeAssert (.iface 257 (.agg x)) 127 232 true).run Tryz.prog w = .ok (.tuple #[.agg #[.int .i64 0, .int .i64 0, .nilIface, .nilIface, .nilIface], .bool false]) w := by kernel_rfl
theorem taExpr_Call_Let (x : Array Value) (w : World) : (Instr.typeAssert (.iface 257 (.agg x)) 127 230 true).run Tryz.prog w = .ok (.tuple #[.agg #[.int .i64 0, .int .i64 0, .bool false, .int .i64 0, .int .i64 0, .string ⟨#[]⟩, .nilIface, .nilIface], .bool false]) w := by kernel_rfl
theorem taExpr_Call_Match (x : Array Value) (w : World) : (Instr.typeAssert (.iface 257 (.agg x)) 127 239 true).run Tryz.prog w = .ok (.tuple #[.agg #[.int .i64 0, .int .i64 0, .nilIface, .slice none 0 0], .bool false]) w := by kernel_rfl
theorem taExpr_Fun_Binary (x : Array Value) (w : World) : (Instr.typeAssert (.iface 228 (.agg x)) 127 213 true).run Tryz.prog w = .ok (.tuple #[.agg #[.int .i64 0, .int .i64 0, .string ⟨#[]⟩, .nilIface, .nilIface], .bool false]) w := by kernel_rfl
theorem taExpr_Fun_Call (x : Array Value) (w : World) : (Instr.typeAssert (.iface 228 (.agg x)) 127 257 true).run Tryz.prog w = .ok (.tuple #[.agg #[.int .i64 0, .int .i64 0, .nilIface, .nilIface], .bool false]) w := by kernel_rfl
theorem taExpr_Fun_Fun (a0 a1 a2 a3 a4 a5 : Value) (w : World) : (Instr.typeAssert (.iface 228 (.agg #[a0, a1, a2, a3, a4, a5])) 127 228 true).run Tryz.prog w = .ok (.tuple #[(.agg #[a0, a1, a2, a3, a4, a5]), .bool true]) w := by kernel_rfl
theorem taExpr_Fun_If (x : Array Value) (w : World) : (Instr.typeAssert (.iface 228 (.agg x)) 127 232 true).run Tryz.prog w = .ok (.tuple #[.agg #[.int .i64 0, .int .i64 0, .nilIface, .nilIface, .nilIface], .bool false]) w := by kernel_rfl
theorem taExpr_Fun_Let (x : Array Value) (w : World) : (Instr.typeAssert (.iface 228 (.agg x)) 127 230 true).run Tryz.prog w = .ok (.tuple #[.agg #[.int .i64 0, .int .i64 0, .bool false, .int .i64 0, .int .i64 0, .string ⟨#[]⟩, .nilIface, .nilIface], .bool false]) w := by kernel_rfl
theorem taExpr_Fun_Match (x : Array Value) (w : World) : (Instr.typeAssert (.iface 228 (.agg x)) 127 239 true).run Tryz.prog w = .ok (.tuple #[.agg #[.int .i64 0, .int .i64 0, .nilIface, .slice none 0 0], .bool false]) w := by kernel_rfl
theorem taExpr_If_Binary (x : Array Value) (w : World) : (Instr.typeAssert (.iface 232 (.agg x)) 127 213 true).run Tryz.prog w = .ok (.tuple #[.agg #[.int .i64 0, .int .i64 0, .string ⟨#[]⟩, .nilIface, .nilIface], .bool false]) w := by kernel_rfl
theorem taExpr_If_Call (x : Array Value) (w : World) : (Instr.typeAssert (.iface 232 (.agg x)) 127 257 true).run Tryz.prog w = .ok (.tuple #[.agg #[.int .i64 0, .int .i64 0, .nilIface, .nilIface], .bool false]) w := by kernel_rfl
theorem taExpr_If_Fun (x : Array Value) (w : World) : (Instr.typeAssert (.iface 232 (.agg x)) 127 228 true).run Tryz.prog w = .ok (.tuple #[.agg #[.int .i64 0, .int .i64 0, .int .i64 0, .int .i64 0, .string ⟨#[]⟩, .nilIface], .bool false]) w := by kernel_rfl
theorem taExpr_If_If (a0 a1 a2 a3 a4 : Value) (w : World) : (Instr.typeAssert (.iface 232 (.agg #[a0, a1, a2, a3, a4])) 127 232 true).run Tryz.prog w = .ok (.tuple #[(.agg #[a0, a1, a2, a3, a4]), .bool true]) w := by kernel_rfl
theorem taExpr_If_Let (x : Array Value) (w : World) : (Instr.typeAssert (.iface 232 (.agg x)) 127 230 true).run Tryz.prog w = .ok (.tuple #[.agg #[.int .i64 0, .int .i64 0, .bool false, .int .i64 0, .int .i64 0, .string ⟨#[]⟩, .nilIface, .nilIface], .bool false]) w := by kernel_rfl
theorem taExpr_If_Match (x : Array Value) (w : World) : (Instr.typeAssert (.iface 232 (.agg x)) 127 239 true).run Tryz.prog w = .ok (.tuple #[.agg #[.int .i64 0, .int .i64 0, .nilIface, .slice none 0 0], .bool false]) w := by kernel_rfl
theorem taExpr_Let_Binary (x : Array Value) (w : World) : (Instr.typeAssert (.iface 230 (.agg x)) 127 213 true).run Tryz.prog w = .ok (.tuple #[.agg #[.int .i64 0, .int .i64 0, .string ⟨#[]⟩, .nilIface, .nilIface], .bool false]) w := by kernel_rfl
theorem taExpr_Let_Call (x : Array Value) (w : World) : (Instr.typeAssert (.iface 230 (.agg x)) 127 257 true).run Tryz.prog w = .ok (.tuple #[.agg #[.int .i64 0, .int .i64 0, .nilIface, .nilIface], .bool false]) w := by kernel_rfl
theorem taExpr_Let_Fun (x : Array Value) (w : World) : (Instr.typeAssert (.iface 230 (.agg x)) 127 228 true).run Tryz.prog w = .ok (.tuple #[.agg #[.int .i64 0, .int .i64 0, .int .i64 0, .int .i64 0, .string ⟨#[]⟩, .nilIface], .bool false]) w := by kernel_rfl
theorem taExpr_Let_If (x : Array Value) (w : World) : (Instr.typeAssert (.iface 230 (.agg x)) 127 232 true).run Tryz.prog w = .ok (.tuple #[.agg #[.int .i64 0, .int .i64 0, .nilIface, .nilIface, .nilIface], .bool false]) w := by kernel_rfl
theorem taExpr_Let_Let (a0 a1 a2 a3 a4 a5 a6 a7 : Value) (w : World) : (Instr.typeAssert (.iface 230 (.agg #[a0, a1, a2, a3, a4, a5, a6, a7])) 127 230 true).run Tryz.prog w = .ok (.tuple #[(.agg #[a0, a1, a2, a3, a4, a5, a6, a7]), .bool true]) w := by kernel_rfl
theorem taExpr_Let_Match (x : Array Value) (w : World) : (Instr.typeAssert (.iface 230 (.agg x)) 127 239 true).run Tryz.prog w = .ok (.tuple #[.agg #[.int .i64 0, .int .i64 0, .nilIface, .slice none 0 0], .bool false]) w := by kernel_rfl
theorem taExpr_Low_Binary (x : Array Value) (w : World) : (Instr.typeAssert (.iface 195 (.agg x)) 127 213 true).run Tryz.prog w = .ok (.tuple #[.agg #[.int .i64 0, .int .i64 0, .string ⟨#[]⟩, .nilIface, .nilIface], .bool false]) w := by kernel_rfl
theorem taExpr_Low_Call (x : Array Value) (w : World) : (Instr.typeAssert (.iface 195 (.agg x)) 127 257 true).run Tryz.prog w = .ok (.tuple #[.agg #[.int .i64 0, .int .i64 0, .nilIface, .nilIface], .bool false]) w := by kernel_rfl
theorem taExpr_Low_Fun (x : Array Value) (w : World) : (Instr.typeAssert (.iface 195 (.agg x)) 127 228 true).run Tryz.prog w = .ok (.tuple #[.agg #[.int .i64 0, .int .i64 0, .int .i64 0, .int .i64 0, .string ⟨#[]⟩, .nilIface], .bool false]) w := by kernel_rfl
theorem taExpr_Low_If (x : Array Value) (w : World) : (Instr.typeAssert (.iface 195 (.agg x)) 127 232 true).run Tryz.prog w = .ok (.tuple #[.agg #[.int .i64 0, .int .i64 0, .nilIface, .nilIface, .nilIface], .bool false]) w := by kernel_rfl
theorem taExpr_Low_Let (x : Array Value) (w : World) : (Instr.typeAssert (.iface 195 (.agg x)) 127 230 true).run Tryz.prog w = .ok (.tuple #[.agg #[.int .i64 0, .int .i64 0, .bool false, .int .i64 0, .int .i64 0, .string ⟨#[]⟩, .nilIface, .nilIface], .bool false]) w := by kernel_rfl
theorem taExpr_Low_Low (a0 a1 a2 : Value) (w : World) : (Instr.typeAssert (.iface 195 (.agg #[a0, a1, a2])) 127 195 true).run Tryz.prog w = .ok (.tuple #[(.agg #[a0, a1, a2]), .bool true]) w := by kernel_rfl
theorem taExpr_Low_Match (x : Array Value) (w : World) : (Instr.typeAssert (.iface 195 (.agg x)) 127 239 true).run Tryz.prog w = .ok (.tuple #[.agg #[.int .i64 0, .int .i64 0, .nilIface, .slice none 0 0], .bool false]) w := by kernel_rfl
theorem taExpr_Match_Binary (x : Array Value) (w : World) : (Instr.typeAssert (.iface 239 (.agg x)) 127 213 true).run Tryz.prog w = .ok (.tuple #[.agg #[.int .i64 0, .int .i64 0, .string ⟨#[]⟩, .nilIface, .nilIface], .bool false]) w := by kernel_rfl
theorem taExpr_Match_Call (x : Array Value) (w : World) : (Instr.typeAssert (.iface 239 (.agg x)) 127 257 true).run Tryz.prog w = .ok (.tuple #[.agg #[.int .i64 0, .int .i64 0, .nilIface, .nilIface], .bool false]) w := by kernel_rfl
theorem taExpr_Match_Fun (x : Array Value) (w : World) : (Instr.typeAssert (.iface 239 (.agg x)) 127 228 true).run Tryz.prog w = .ok (.tuple #[.agg #[.int .i64 0, .int .i64 0, .int .i64 0, .int .i64 0, .string ⟨#[]⟩, .nilIface], .bool false]) w := by kernel_rfl
theorem taExpr_Match_If (x : Array Value) (w : World) : (Instr.typeAssert (.iface 239 (.agg x)) 127 232 true).run Tryz.prog w = .ok (.tuple #[.agg #[.int .i64 0, .int .i64 0, .nilIface, .nilIface, .nilIface], .bool false]) w := by kernel_rfl
theorem taExpr_Match_Let (x : Array Value) (w : World) : (Instr.typeAssert (.iface 239 (.agg x)) 127 230 true).run Tryz.prog w = .ok (.tuple #[.agg #[.int .i64 0, .int .i64 0, .bool false, .int .i64 0, .int .i64 0, .string ⟨#[]⟩, .nilIface, .nilIface], .bool false]) w := by kernel_rfl
theorem taExpr_Match_Match (a0 a1 a2 a3 : Value) (w : World) : (Instr.typeAssert (.iface 239 (.agg #[a0, a1, a2, a3])) 127 239 true).run Tryz.prog w = .ok (.tuple #[(.agg #[a0, a1, a2, a3]), .bool true]) w := by kernel_rfl
theorem taExpr_Number_Binary (x : Array Value) (w : World) : (Instr.typeAssert (.iface 198 (.agg x)) 127 213 true).run Tryz.prog w = .ok (.tuple #[.agg #[.int .i64 0, .int .i64 0, .string ⟨#[]⟩, .nilIface, .nilIface], .bool false]) w := by kernel_rfl
theorem taExpr_Number_Call (x : Array Value) (w : World) : (Instr.typeAssert (.iface 198 (.agg x)) 127 257 true).run Tryz.prog w = .ok (.tuple #[.agg #[.int .i64 0, .int .i64 0, .nilIface, .nilIface], .bool false]) w := by kernel_rfl
theorem taExpr_Number_Fun (x : Array Value) (w : World) : (Instr.typeAssert (.iface 198 (.agg x)) 127 228 true).run Tryz.prog w = .ok (.tuple #[.agg #[.int .i64 0, .int .i64 0, .int .i64 0, .int .i64 0, .string ⟨#[]⟩, .nilIface], .bool false]) w := by kernel_rfl
theorem taExpr_Number_If (x : Array Value) (w : World) : (Instr.typeAssert (.iface 198 (.agg x)) 127 232 true).run Tryz.prog w = .ok (.tuple #[.agg #[.int .i64 0, .int .i64 0, .nilIface, .nilIface, .nilIface], .bool false]) w := by kernel_rfl
theorem taExpr_Number_Let (x : Array Value) (w : World) : (Instr.typeAssert (.iface 198 (.agg x)) 127 230 true).run Tryz.prog w = .ok (.tuple #[.agg #[.int .i64 0, .int .i64 0, .bool false, .int .i64 0, .int .i64 0, .string ⟨#[]⟩, .nilIface, .nilIface], .bool false]) w := by kernel_rfl
theorem taExpr_Number_Low (x : Array Value) (w : World) : (Instr.typeAssert (.iface 198 (.agg x)) 127 195 true).run Tryz.prog w = .ok (.tuple #[.agg #[.int .i64 0, .int .i64 0, .string ⟨#[]⟩], .bool false]) w := by kernel_rfl
theorem taExpr_Number_Match (x : Array Value) (w : World) : (Instr.typeAssert (.iface 198 (.agg x)) 127 239 true).run Tryz.prog w = .ok (.tuple #[.agg #[.int .i64 0, .int .i64 0, .nilIface, .slice none 0 0], .bool false]) w := by kernel_rfl
theorem taExpr_Number_Number (a0 a1 a2 : Value) (w : World) : (Instr.typeAssert (.iface 198 (.agg #[a0, a1, a2])) 127 198 true).run Tryz.prog w = .ok (.tuple #[(.agg #[a0, a1, a2]), .bool true]) w := by kernel_rfl
theorem taExpr_Number_Up (x : Array Value) (w : World) : (Instr.typeAssert (.iface 198 (.agg x)) 127 240 true).run Tryz.prog w = .ok (.tuple #[.agg #[.int .i64 0, .int .i64 0, .string ⟨#[]⟩], .bool false]) w := by kernel_rfl
theorem taExpr_Pair_Binary (x : Array Value) (w : World) : (Instr.typeAssert (.iface 244 (.agg x)) 127 213 true).run Tryz.prog w = .ok (.tuple #[.agg #[.int .i64 0, .int .i64 0, .string ⟨#[]⟩, .nilIface, .nilIface], .bool false]) w := by kernel_rfl
theorem taExpr_Pair_Bool (x : Array Value) (w : World) : (Instr.typeAssert (.iface 244 (.agg x)) 127 201 true).run Tryz.prog w = .ok (.tuple #[.agg #[.int .i64 0, .int .i64 0, .bool false], .bool false]) w := by kernel_rfl
theorem taExpr_Pair_Call (x : Array Value) (w : World) : (Instr.typeAssert (.iface 244 (.agg x)) 127 257 true).run Tryz.prog w = .ok (.tuple #[.agg #[.int .i64 0, .int .i64 0, .nilIface, .nilIface], .bool false]) w := by kernel_rfl
theorem taExpr_Pair_Fun (x : Array Value) (w : World) : (Instr.typeAssert (.iface 244 (.agg x)) 127 228 true).run Tryz.prog w = .ok (.tuple #[.agg #[.int .i64 0, .int .i64 0, .int .i64 0, .int .i64 0, .string ⟨#[]⟩, .nilIface], .bool false]) w := by kernel_rfl
theorem taExpr_Pair_If (x : Array Value) (w : World) : (Instr.typeAssert (.iface 244 (.agg x)) 127 232 true).run Tryz.prog w = .ok (.tuple #[.agg #[.int .i64 0, .int .i64 0, .nilIface, .nilIface, .nilIface], .bool false]) w := by kernel_rfl
theorem taExpr_Pair_Let (x : Array Value) (w : World) : (Instr.typeAssert (.iface 244 (.agg x)) 127 230 true).run Tryz.prog w = .ok (.tuple #[.agg #[.int .i64 0, .int .i64 0, .bool false, .int .i64 0, .int .i64 0, .string ⟨#[]⟩, .nilIface, .nilIface], .bool false]) w := by kernel_rfl
theorem taExpr_Pair_Low (x : Array Value) (w : World) : (Instr.typeAssert (.iface 244 (.agg x)) 127 195 true).run Tryz.prog w = .ok (.tuple #[.agg #[.int .i64 0, .int .i64 0, .string ⟨#[]⟩], .bool false]) w := by kernel_rfl
theorem taExpr_Pair_Match (x : Array Value) (w : World) : (Instr.typeAssert (.iface 244 (.agg x)) 127 239 true).run Tryz.prog w = .ok (.tuple #[.agg #[.int .i64 0, .int .i64 0, .nilIface, .slice none 0 0], .bool false]) w := by kernel_rfl
theorem taExpr_Pair_Number (x : Array Value) (w : World) : (Instr.typeAssert (.iface 244 (.agg x)) 127 198 true).run Tryz.prog w = .ok (.tuple #[.agg #[.int .i64 0, .int .i64 0, .int .i64 0], .bool false]) w := by kernel_rfl
theorem taExpr_Pair_Pair (a0 a1 a2 a3 : Value) (w : World) : (Instr.typeAssert (.iface 244 (.agg #[a0, a1, a2, a3])) 127 244 true).run Tryz.prog w = .ok (.tuple #[(.agg #[a0, a1, a2, a3]), .bool true]) w := by kernel_rfl
theorem taExpr_Pair_Unit (x : Array Value) (w : World) : (Instr.typeAssert (.iface 244 (.agg x)) 127 242 true).run Tryz.prog w = .ok (.tuple #[.agg #[.int .i64 0, .int .i64 0], .bool false]) w := by kernel_rfl
theorem taExpr_Pair_Up (x : Array Value) (w : World) : (Instr.typeAssert (.iface 244 (.agg x)) 127 240 true).run Tryz.prog w = .ok (.tuple #[.agg #[.int .i64 0, .int .i64 0, .string ⟨#[]⟩], .bool false]) w := by kernel_rfl
theorem taExpr_Typed_Binary (x : Array Value) (w : World) : (Instr.typeAssert (.iface 246 (.agg x)) 127 213 true).run Tryz.prog w = .ok (.tuple #[.agg #[.int .i64 0, .int .i64 0, .string ⟨#[]⟩, .nilIface, .nilIface], .bool false]) w := by kernel_rfl
theorem taExpr_Typed_Bool (x : Array Value) (w : World) : (Instr.typeAssert (.iface 246 (.agg x)) 127 201 true).run Tryz.prog w = .ok (.tuple #[.agg #[.int .i64 0, .int .i64 0, .bool false], .bool false]) w := by kernel_rfl
theorem taExpr_Typed_Call (x : Array Value) (w : World) : (Instr.typeAssert (.iface 246 (.agg x)) 127 257 true).run Tryz.prog w = .ok (.tuple #[.agg #[.int .i64 0, .int .i64 0, .nilIface, .nilIface], .bool false]) w := by kernel_rfl
theorem taExpr_Typed_Fun (x : Array Value) (w : World) : (Instr.typeAssert (.iface 246 (.agg x)) 127 228 true).run Tryz.prog w = .ok (.tuple #[.agg #[.int .i64 0, .int .i64 0, .int .i64 0, .int .i64 0, .string ⟨#[]⟩, .nilIface], .bool false]) w := by kernel_rfl
theorem taExpr_Typed_If (x : Array Value) (w : World) : (Instr.typeAssert (.iface 246 (.agg x)) 127 232 true).run Tryz.prog w = .ok (.tuple #[.agg #[.int .i64 0, .int .i64 0, .nilIface, .nilIface, .nilIface], .bool false]) w := by kernel_rfl
theorem taExpr_Typed_Let (x : Array Value) (w : World) : (Instr.typeAssert (.iface 246 (.agg x)) 127 230 true).run Tryz.prog w = .ok (.tuple #[.agg #[.int .i64 0, .int .i64 0, .bool false, .int .i64 0, .int .i64 0, .string ⟨#[]⟩, .nilIface, .nilIface], .bool false]) w := by kernel_rfl
theorem taExpr_Typed_Low (x : Array Value) (w : World) : (Instr.typeAssert (.iface 246 (.agg x)) 127 195 true).run Tryz.prog w = .ok (.tuple #[.agg #[.int .i64 0, .int .i64 0, .string ⟨#[]⟩], .bool false]) w := by kernel_rfl
theorem taExpr_Typed_Match (x : Array Value) (w : World) : (Instr.typeAssert (.iface 246 (.agg x)) 127 239 true).run Tryz.prog w = .ok (.tuple #[.agg #[.int .i64 0, .int .i64 0, .nilIface, .slice none 0 0], .bool false]) w := by kernel_rfl
theorem taExpr_Typed_Number (x : Array Value) (w : World) : (Instr.typeAssert (.iface 246 (.agg x)) 127 198 true).run Tryz.prog w = .ok (.tuple #[.agg #[.int .i64 0, .int .i64 0, .int .i64 0], .bool false]) w := by kernel_rfl
theorem taExpr_Typed_Pair (x : Array Value) (w : World) : (Instr.typeAssert (.iface 246 (.agg x)) 127 244 true).run Tryz.prog w = .ok (.tuple #[.agg #[.int .i64 0, .int .i64 0, .nilIface, .nilIface], .bool false]) w := by kernel_rfl
theorem taExpr_Typed_Typed (a0 a1 a2 a3 : Value) (w : World) : (Instr.typeAssert (.iface 246 (.agg #[a0, a1, a2, a3])) 127 246 true).run Tryz.prog w = .ok (.tuple #[(.agg #[a0, a1, a2, a3]), .bool true]) w := by kernel_rfl
theorem taExpr_Typed_Unit (x : Array Value) (w : World) : (Instr.typeAssert (.iface 246 (.agg x)) 127 242 true).run Tryz.prog w = .ok (.tuple #[.agg #[.int .i64 0, .int .i64 0], .bool false]) w := by kernel_rfl
theorem taExpr_Typed_Up (x : Array Value) (w : World) : (Instr.typeAssert (.iface 246 (.agg x)) 127 240 true).run Tryz.prog w = .ok (.tuple #[.agg #[.int .i64 0, .int .i64 0, .string ⟨#[]⟩], .bool false]) w := by kernel_rfl
theorem taExpr_Unit_Binary (x : Array Value) (w : World) : (Instr.typeAssert (.iface 242 (.agg x)) 127 213 true).run Tryz.prog w = .ok (.tuple #[.agg #[.int .i64 0, .int .i64 0, .string ⟨#[]⟩, .nilIface, .nilIface], .bool false]) w := by kernel_rfl
theorem taExpr_Unit_Bool (x : Array Value) (w : World) : (Instr.typeAssert (.iface 242 (.agg x)) 127 201 true).run Tryz.prog w = .ok (.tuple #[.agg #[.int .i64 0, .int .i64 0, .bool false], .bool false]) w := by kernel_rfl
theorem taExpr_Unit_Call (x : Array Value) (w : World) : (Instr.typeAssert (.iface 242 (.agg x)) 127 257 true).run Tryz.prog w = .ok (.tuple #[.agg #[.int .i64 0, .int .i64 0, .nilIface, .nilIface], .bool false]) w := by kernel_rfl
theorem taExpr_Unit_Fun (x : Array Value) (w : World) : (Instr.typeAssert (.iface 242 (.agg x)) 127 228 true).run Tryz.prog w = .ok (.tuple #[.agg #[.int .i64 0, .int .i64 0, .int .i64 0, .int .i64 0, .string ⟨#[]⟩, .nilIface], .bool false]) w := by kernel_rfl
theorem taExpr_Unit_If (x : Array Value) (w : World) : (Instr.typeAssert (.iface 242 (.agg x)) 127 232 true).run Tryz.prog w = .ok (.tuple #[.agg #[.int .i64 0, .int .i64 0, .nilIface, .nilIface, .nilIface], .bool false]) w := by kernel_rfl
theorem taExpr_Unit_Let (x : Array Value) (w : World) : (Instr.typeAssert (.iface 242 (.agg x)) 127 230 true).run Tryz.prog w = .ok (.tuple #[.agg #[.int .i64 0, .int .i64 0, .bool false, .int .i64 0, .int .i64 0, .string ⟨#[]⟩, .nilIface, .nilIface], .bool false]) w := by kernel_rfl
theorem taExpr_Unit_Low (x : Array Value) (w : World) : (Instr.typeAssert (.iface 242 (.agg x)) 127 195 true).run Tryz.prog w = .ok (.tuple #[.agg #[.int .i64 0, .int .i64 0, .string ⟨#[]⟩], .bool false]) w := by kernel_rfl
theorem taExpr_Unit_Match (x : Array Value) (w : World) : (Instr.typeAssert (.iface 242 (.agg x)) 127 239 true).run Tryz.prog w = .ok (.tuple #[.agg #[.int .i64 0, .int .i64 0, .nilIface, .slice none 0 0], .bool false]) w := by kernel_rfl
theorem taExpr_Unit_Number (x : Array Value) (w : World) : (Instr.typeAssert (.iface 242 (.agg x)) 127 198 true).run Tryz.prog w = .ok (.tuple #[.agg #[.int .i64 0, .int .i64 0, .int .i64 0], .bool false]) w := by kernel_rfl
theorem taExpr_Unit_Unit (a0 a1 : Value) (w : World) : (Instr.typeAssert (.iface 242 (.agg #[a0, a1])) 127 242 true).run Tryz.prog w = .ok (.tuple #[(.agg #[a0, a1]), .bool true]) w := by kernel_rfl
theorem taExpr_Unit_Up (x : Array Value) (w : World) : (Instr.typeAssert (.iface 242 (.agg x)) 127 240 true).run Tryz.prog w = .ok (.tuple #[.agg #[.int .i64 0, .int .i64 0, .string ⟨#[]⟩], .bool false]) w := by kernel_rfl
theorem taExpr_Up_Binary (x : Array Value) (w : World) : (Instr.typeAssert (.iface 240 (.agg x)) 127 213 true).run Tryz.prog w = .ok (.tuple #[.agg #[.int .i64 0, .int .i64 0, .string ⟨#[]⟩, .nilIface, .nilIface], .bool false]) w := by kernel_rfl
theorem taExpr_Up_Call (x : Array Value) (w : World) : (Instr.typeAssert (.iface 240 (.agg x)) 127 257 true).run Tryz.prog w = .ok (.tuple #[.agg #[.int .i64 0, .int .i64 0, .nilIface, .nilIface], .bool false]) w := by kernel_rfl
theorem taExpr_Up_Fun (x : Array Value) (w : World) : (Instr.typeAssert (.iface 240 (.agg x)) 127 228 true).run Tryz.prog w = .ok (.tuple #[.agg #[.int .i64 0, .int .i64 0, .int .i64 0, .int .i64 0, .string ⟨#[]⟩, .nilIface], .bool false]) w := by kernel_rfl
theorem taExpr_Up_If (x : Array Value) (w : World) : (Instr.typeAssert (.iface 240 (.agg x)) 127 232 true).run Tryz.prog w = .ok (.tuple #[.agg #[.int .i64 0, .int .i64 0, .nilIface, .nilIface, .nilIface], .bool false]) w := by kernel_rfl
theorem taExpr_Up_Let (x : Array Value) (w : World) : (Instr.typeAssert (.iface 240 (.agg x)) 127 230 true).run Tryz.prog w = .ok (.tuple #[.agg #[.int .i64 0, .int .i64 0, .bool false, .int .i64 0, .int .i64 0, .string ⟨#[]⟩, .nilIface, .nilIface], .bool false]) w := by kernel_rfl
theorem taExpr_Up_Low (x : Array Value) (w : World) : (Instr.typeAssert (.iface 240 (.agg x)) 127 195 true).run Tryz.prog w = .ok (.tuple #[.agg #[.int .i64 0, .int .i64 0, .string ⟨#[]⟩], .bool false]) w := by kernel_rfl
theorem taExpr_Up_Match (x : Array Value) (w : World) : (Instr.typeAssert (.iface 240 (.agg x)) 127 239 true).run Tryz.prog w = .ok (.tuple #[.agg #[.int .i64 0, .int .i64 0, .nilIface, .slice none 0 0], .bool false]) w := by kernel_rfl
theorem taExpr_Up_Up (a0 a1 a2 : Value) (w : World) : (Instr.typeAssert (.iface 240 (.agg #[a0, a1, a2])) 127 240 true).run Tryz.prog w = .ok (.tuple #[(.agg #[a0, a1, a2]), .bool true]) w := by kernel_rfl
theorem taPattern_Any_Any (a0 a1 : Value) (w : World) : (Instr.typeAssert (.iface 247 (.agg #[a0, a1])) 205 247 true).run Tryz.prog w = .ok (.tuple #[(.agg #[a0, a1]), .bool true]) w := by kernel_rfl
theorem taPattern_Any_Made (x : Array Value) (w : World) : (Instr.typeAssert (.iface 247 (.agg x)) 205 250 true).run Tryz.prog w = .ok (.tuple #[.agg #[.int .i64 0, .int .i64 0, .int .i64 0, .int .i64 0, .string ⟨#[]⟩, .slice none 0 0], .bool false]) w := by kernel_rfl
theorem taPattern_Bool_Any (x : Array Value) (w : World) : (Instr.typeAssert (.iface 201 (.agg x)) 205 247 true).run Tryz.prog w = .ok (.tuple #[.agg #[.int .i64 0, .int .i64 0], .bool false]) w := by kernel_rfl
theorem taPattern_Bool_Bool (a0 a1 a2 : Value) (w : World) : (Instr.typeAssert (.iface 201 (.agg #[a0, a1, a2])) 205 201 true).run Tryz.prog w = .ok (.tuple #[(.agg #[a0, a1, a2]), .bool true]) w := by kernel_rfl
theorem taPattern_Bool_Low (x : Array Value) (w : World) : (Instr.typeAssert (.iface 201 (.agg x)) 205 195 true).run Tryz.prog w = .ok (.tuple #[.agg #[.int .i64 0, .int .i64 0, .string ⟨#[]⟩], .bool false]) w := by kernel_rfl
theorem taPattern_Bool_Made (x : Array Value) (w : World) : (Instr.typeAssert (.iface 201 (.agg x)) 205 250 true).run Tryz.prog w = .ok (.tuple #[.agg #[.int .i64 0, .int .i64 0, .int .i64 0, .int .i64 0, .string ⟨#[]⟩, .slice none 0 0], .bool false]) w := by kernel_rfl
theorem taPattern_Bool_Number (x : Array Value) (w : World) : (Instr.typeAssert (.iface 201 (.agg x)) 205 198 true).run Tryz.prog w = .ok (.tuple #[.agg #[.int .i64 0, .int .i64 0, .int .i64 0], .bool false]) w := by kernel_rfl
theorem taPattern_Low_Any (x : Array Value) (w : World) : (Instr.typeAssert (.iface 195 (.agg x)) 205 247 true).run Tryz.prog w = .ok (.tuple #[.agg #[.int .i64 0, .int .i64 0], .bool false]) w := by kernel_rfl
theorem taPattern_Low_Low (a0 a1 a2 : Value) (w : World) : (Instr.typeAssert (.iface 195 (.agg #[a0, a1, a2])) 205 195 true).run Tryz.prog w = .ok (.tuple #[(.agg #[a0, a1, a2]), .bool true]) w := by kernel_rfl
theorem taPattern_Low_Made (x : Array Value) (w : World) : (Instr.typeAssert (.iface 195 (.agg x)) 205 250 true).run Tryz.prog w = .ok (.tuple #[.agg #[.int .i64 0, .int .i64 0, .int .i64 0, .int .i64 0, .string ⟨#[]⟩, .slice none 0 0], .bool false]) w := by kernel_rfl
theorem taPattern_Made_Any (x : Array Value) (w : World) : (Instr.typeAssert (.iface 250 (.agg x)) 205 247 true).run Tryz.prog w = .ok (.tuple #[.agg #[.int .i64 0, .int .i64 0], .bool false]) w := by kernel_rfl
theorem taPattern_Made_Bool (x : Array Value) (w : World) : (Instr.typeAssert (.iface 250 (.agg x)) 205 201 true).run Tryz.prog w = .ok (.tuple #[.agg #[.int .i64 0, .int .i64 0, .bool false], .bool false]) w := by kernel_rfl
theorem taPattern_Made_Low (x : Array Value) (w : World) : (Instr.typeAssert (.iface 250 (.agg x)) 205 195 true).run Tryz.prog w = .ok (.tuple #[.agg #[.int .i64 0, .int .i64 0, .string ⟨#[]⟩], .bool false]) w := by kernel_rfl
theorem taPattern_Made_Made (a0 a1 a2 a3 a4 a5 : Value) (w : World) : (Instr.typeAssert (.iface 250 (.agg #[a0, a1, a2, a3, a4, a5])) 205 250 true).run Tryz.prog w = .ok (.tuple #[(.agg #[a0, a1, a2, a3, a4, a5]), .bool true]) w := by kernel_rfl
theorem taPattern_Made_Number (x : Array Value) (w : World) : (Instr.typeAssert (.iface 250 (.agg x)) 205 198 true).run Tryz.prog w = .ok (.tuple #[.agg #[.int .i64 0, .int .i64 0, .int .i64 0], .bool false]) w := by kernel_rfl
theorem taPattern_Made_Unit (x : Array Value) (w : World) : (Instr.typeAssert (.iface 250 (.agg x)) 205 242 true).run Tryz.prog w = .ok (.tuple #[.agg #[.int .i64 0, .int .i64 0], .bool false]) w := by kernel_rfl
theorem taPattern_Number_Any (x : Array Value) (w : World) : (Instr.typeAssert (.iface 198 (.agg x)) 205 247 true).run Tryz.prog w = .ok (.tuple #[.agg #[.int .i64 0, .int .i64 0], .bool false]) w := by kernel_rfl
theorem taPattern_Number_Low (x : Array Value) (w : World) : (Instr.typeAssert (.iface 198 (.agg x)) 205 195 true).run Tryz.prog w = .ok (.tuple #[.agg #[.int .i64 0, .int .i64 0, .string ⟨#[]⟩], .bool false]) w := by kernel_rfl
theorem taPattern_Number_Made (x : Array Value) (w : World) : (Instr.typeAssert (.iface 198 (.agg x)) 205 250 true).run Tryz.prog w = .ok (.tuple #[.agg #[.int .i64 0, .int .i64 0, .int .i64 0, .int .i64 0, .string ⟨#[]⟩, .slice none 0 0], .bool false]) w := by kernel_rfl
theorem taPattern_Number_Number (a0 a1 a2 : Value) (w : World) : (Instr.typeAssert (.iface 198 (.agg #[a0, a1, a2])) 205 198 true).run Tryz.prog w = .ok (.tuple #[(.agg #[a0, a1, a2]), .bool true]) w := by kernel_rfl
theorem taPattern_PatternPair_Any (x : Array Value) (w : World) : (Instr.typeAssert (.iface 252 (.agg x)) 205 247 true).run Tryz.prog w = .ok (.tuple #[.agg #[.int .i64 0, .int .i64 0], .bool false]) w := by kernel_rfl
theorem taPattern_PatternPair_Bool (x : Array Value) (w : World) : (Instr.typeAssert (.iface 252 (.agg x)) 205 201 true).run Tryz.prog w = .ok (.tuple #[.agg #[.int .i64 0, .int .i64 0, .bool false], .bool false]) w := by kernel_rfl
theorem taPattern_PatternPair_Low (x : Array Value) (w : World) : (Instr.typeAssert (.iface 252 (.agg x)) 205 195 true).run Tryz.prog w = .ok (.tuple #[.agg #[.int .i64 0, .int .i64 0, .string ⟨#[]⟩], .bool false]) w := by kernel_rfl
theorem taPattern_PatternPair_Made (x : Array Value) (w : World) : (Instr.typeAssert (.iface 252 (.agg x)) 205 250 true).run Tryz.prog w = .ok (.tuple #[.agg #[.int .i64 0, .int .i64 0, .int .i64 0, .int .i64 0, .string ⟨#[]⟩, .slice none 0 0], .bool false]) w := by kernel_rfl
theorem taPattern_PatternPair_Number (x : Array Value) (w : World) : (Instr.typeAssert (.iface 252 (.agg x)) 205 198 true).run Tryz.prog w = .ok (.tuple #[.agg #[.int .i64 0, .int .i64 0, .int .i64 0], .bool false]) w := by kernel_rfl
theorem taPattern_PatternPair_PatternPair (a0 a1 a2 a3 : Value) (w : World) : (Instr.typeAssert (.iface 252 (.agg #[a0, a1, a2, a3])) 205 252 true).run Tryz.prog w = .ok (.tuple #[(.agg #[a0, a1, a2, a3]), .bool true]) w := by kernel_rfl
theorem taPattern_PatternPair_Unit (x : Array Value) (w : World) : (Instr.typeAssert (.iface 252 (.agg x)) 205 242 true).run Tryz.prog w = .ok (.tuple #[.agg #[.int .i64 0, .int .i64 0], .bool false]) w := by kernel_rfl
theorem taPattern_Unit_Any (x : Array Value) (w : World) : (Instr.typeAssert (.iface 242 (.agg x)) 205 247 true).run Tryz.prog w = .ok (.tuple #[.agg #[.int .i64 0, .int .i64 0], .bool false]) w := by kernel_rfl
theorem taPattern_Unit_Bool (x : Array Value) (w : World) : (Instr.typeAssert (.iface 242 (.agg x)) 205 201 true).run Tryz.prog w = .ok (.tuple #[.agg #[.int .i64 0, .int .i64 0, .bool false], .bool false]) w := by kernel_rfl
theorem taPattern_Unit_Low (x : Array Value) (w : World) : (Instr.typeAssert (.iface 242 (.agg x)) 205 195 true).run Tryz.prog w = .ok (.tuple #[.agg #[.int .i64 0, .int .i64 0, .string ⟨#[]⟩], .bool false]) w := by kernel_rfl
theorem taPattern_Unit_Made (x : Array Value) (w : World) : (Instr.typeAssert (.iface 242 (.agg x)) 205 250 true).run Tryz.prog w = .ok (.tuple #[.agg #[.int .i64 0, .int .i64 0, .int .i64 0, .int .i64 0, .string ⟨#[]⟩, .slice none 0 0], .bool false]) w := by kernel_rfl
theorem taPattern_Unit_Number (x : Array Value) (w : World) : (Instr.typeAssert (.iface 242 (.agg x)) 205 198 true).run Tryz.prog w = .ok (.tuple #[.agg #[.int .i64 0, .int .i64 0, .int .i64 0], .bool false]) w := by kernel_rfl
theorem taPattern_Unit_Unit (a0 a1 : Value) (w : World) : (Instr.typeAssert (.iface 242 (.agg #[a0, a1])) 205 242 true).run Tryz.prog w = .ok (.tuple #[(.agg #[a0, a1]), .bool true]) w := by kernel_rfl
section
variable {w : World}
def boolW (b : Bool) : ByteArray := if b then kTrue else kFalse
set_option maxRecDepth 100000 in
set_option maxHeartbeats 1000000 in
theorem iformatBool_C (b : Bool) : Calls Tryz.prog 185 #[.bool b] w fun e w' => e = .returned (.string (boolW b)) ∧ w = w' := by
  cases b
  · go_enter Tryz.func185, Tryz.ntmps185
    go_wp2_with fail
    go_ret
    exact ⟨rfl, rfl⟩
  · go_enter Tryz.func185, Tryz.ntmps185
    go_wp2_with fail
    go_ret
    exact ⟨rfl, rfl⟩
set_option maxRecDepth 100000 in
set_option maxHeartbeats 1000000 in
theorem formatBool_C (b : Bool) : Calls Tryz.prog 171 #[.bool b] w fun e w' => e = .returned (.string (boolW b)) ∧ w = w' := by
  have HC := iformatBool_C (w := w) b
  go_enter Tryz.func171, Tryz.ntmps171
  go_wp2_with fail
  refine HC.mono ?_
  rintro e w1 ⟨rfl, rfl⟩
  go_wp2_with fail
  go_ret
  exact ⟨rfl, rfl⟩
end
end Go.Proofs.YteneoapickhpdaaGreatDoor
namespace Go.Proofs.YteneoapickhpdaaGreatDoor
open Go Go.RowKit Go.ChangeMaps Un
/-- That numbers are written by Itoa. -/
def ItoaC : Prop := ∀ (w : World) (n : Nat), n < 1000000000 → P10 w → Calls Tryz.prog 62 #[.int .i64 (n : Int)] w fun e w' => e = .returned (.string (bs (dec n))) ∧ Below w.heap.size w w'
theorem bs_list (x : List UInt8) : (bs x).toList = x := by rw [ByteArray.toList_eq]; rfl
theorem dg_in (n : Nat) : 48 ≤ (dg n).toNat ∧ (dg n).toNat ≤ 57 := by
  have h : n % 10 < 10 := Nat.mod_lt _ (by decide)
  unfold dg
  generalize n % 10 = d at h
  match d, h with
  | 0, _ | 1, _ | 2, _ | 3, _ | 4, _ | 5, _ | 6, _ | 7, _ | 8, _ | 9, _ => decide
theorem dec_ne (n : Nat) : dec n ≠ [41] ∧ dec n ≠ [44] ∧ dec n ≠ [59] ∧ dec n ≠ [] ∧ dec n ≠ [40] := by
  have key : ∀ m, ∀ x ∈ dec m, 48 ≤ x.toNat ∧ x.toNat ≤ 57 := by
    intro m
    induction m using Nat.strongRecOn with
    | ind m ih =>
      intro x hx
      unfold dec at hx
      split at hx
      · rename_i h
        rcases List.mem_singleton.1 hx with rfl
        exact dg_in m
      · rename_i h
        rcases List.mem_append.1 hx with hx | hx
        · exact ih (m / 10) (by omega) x hx
        · rcases List.mem_singleton.1 hx with rfl
          exact dg_in m
  have hne : dec n ≠ [] := by
    unfold dec
    split <;> simp
  have one : ∀ c : UInt8, (c.toNat < 48 ∨ 57 < c.toNat) → dec n ≠ [c] := fun c hc e => by
    have := key n c (by rw [e]; simp)
    omega
  exact ⟨one 41 (by decide), one 44 (by decide), one 59 (by decide), hne, one 40 (by decide)⟩
theorem dec_pow : ∀ k n, n < 10 ^ (k + 1) → (dec n).length ≤ k + 1
  | 0, n, h => by unfold dec; rw [if_pos (by omega)]; simp
  | k + 1, n, h => by
    unfold dec
    split
    · simp
    · have := dec_pow k (n / 10) (by rw [Nat.pow_succ] at h; omega)
      simp
      omega
theorem tl_of {s : ByteArray} (h : s.toList = kTrue.toList ∨ s.toList = kFalse.toList) : (boolW (s.toList == [116, 114, 117, 101])).toList = s.toList := by
  rcases h with h | h
  · rw [h, show kTrue.toList = [116, 114, 117, 101] from toList_mk _]; exact toList_mk _
  · rw [h, show kFalse.toList = [102, 97, 108, 115, 101] from toList_mk _]; exact toList_mk _
section
variable {w : World}
theorem sh_any (s : ByteArray) (n f t a : Nat) : sh (.mk 15 s n [] f t a) = [95] := by simp [sh, joinE]
theorem sh_low (s : ByteArray) (n f t a : Nat) : sh (.mk 1 s n [] f t a) = s.toList := by simp [sh, joinE]
theorem sh_num (s : ByteArray) (n f t a : Nat) : sh (.mk 3 s n [] f t a) = dec n := by simp [sh, joinE]
theorem sh_word (s : ByteArray) (n f t a : Nat) : sh (.mk 4 s n [] f t a) = s.toList := by simp [sh, joinE]
theorem sh_unit (s : ByteArray) (n f t a : Nat) : sh (.mk 5 s n [] f t a) = [40, 41] := by simp [sh, joinE]
theorem sh_pr (s : ByteArray) (n : Nat) (x y : Nd) (f t a : Nat) : sh (.mk 6 s n [x, y] f t a) = 40 :: (sh x ++ ([44, 32] ++ (sh y ++ [41]))) := by simp [sh, joinE, prL, gP]
theorem sh_up (s : ByteArray) (n : Nat) (L : List Nd) (f t a : Nat) : sh (.mk 2 s n L f t a) = s.toList ++ behindP (L.map fun x => (lv x, sh x)) := by simp [sh, joinE, prL_map]
set_option maxRecDepth 100000 in
set_option maxHeartbeats 2000000 in
theorem bareP_any (s : ByteArray) (n f t a : Nat) : BarePC (.mk 15 s n [] f t a) := by
  intro w B pb bv l last mv Q v h hp hq hl hB
  cases hp with
  | any s n f t a =>
  have esh := sh_any s n f t a
  rw [esh] at hl ⊢
  simp only [List.length_append, List.length_cons, List.length_nil] at hl
  have ha0 := taPattern_Any_Any
  have hbW : Below w.heap.size w (w.alloc (.cells #[.int .i64 (f : Int), .int .i64 (t : Int)] 247)) := ((Below.refl _ _).alloc (Nat.le_refl _) (.cells #[.int .i64 (f : Int), .int .i64 (t : Int)] 247))
  have zW : (w.alloc (.cells #[.int .i64 (f : Int), .int .i64 (t : Int)] 247)).heap.size = w.heap.size + 1 := by simp
  have FW := FN.of (B := B) (pb := pb) hbW
  have hzp := h.lt
  have N0 := hide (h.bel hbW)
  have F0 := hide (FN.refl B pb (w.alloc (.cells #[.int .i64 (f : Int), .int .i64 (t : Int)] 247)))
  have BXb := hide (Bx.at w #[.int .i64 (f : Int), .int .i64 (t : Int)] 247 (w.heap.size) (by simp))
  have HQ := hide (hq.fn FW)
  clear h hq
  go_enter Tryz.func184, Tryz.ntmps184
  have zp1 := (unhide N0).lt
  rw [zW] at zp1
  have hb1 : Below (w.alloc (.cells #[.int .i64 (f : Int), .int .i64 (t : Int)] 247)).heap.size (w.alloc (.cells #[.int .i64 (f : Int), .int .i64 (t : Int)] 247)) ((w.alloc (.cells #[.int .i64 (f : Int), .int .i64 (t : Int)] 247)).alloc (.cells #[.string kAny] 9)) := (Below.refl _ _).alloc (Nat.le_refl _) _
  have eT1 : putsL l last [kAny] = (l ++ (sep last ++ [95])) := by
    show (putL' l last kAny) = _
    rw [putLoose (toList_mk [95]) (by decide) (by decide) (by decide)]
  have HP1 := puts_C ((unhide N0).bel hb1) [kAny] (by intro t ht; simp only [List.mem_cons, List.not_mem_nil, or_false] at ht; rcases ht with rfl <;> first | decide | assumption) (by simp) (by first | omega | (simp only [List.length_append, List.length_cons, List.length_nil]; omega)) (w.heap.size + 1) (Bx.at (w.alloc (.cells #[.int .i64 (f : Int), .int .i64 (t : Int)] 247)) #[.string kAny] 9 (w.heap.size + 1) (by simp)) (by omega) (Or.inr ((Bx.at (w.alloc (.cells #[.int .i64 (f : Int), .int .i64 (t : Int)] 247)) #[.string kAny] 9 (w.heap.size + 1) (by simp)).nby (by intro x hx c; simp at hx; subst hx; intro q; cases q)))
  rw [eT1] at HP1
  go_wp2_with fail
  refine HP1.mono ?_
  rintro e w1 ⟨rfl, bvw1, hN, hF⟩
  have N2 : Hid (PN w1 B pb bvw1 (l ++ (sep last ++ [95])) kAny mv) := hide hN
  have F3 := hide ((unhide F0).trans ((FN.of hb1).trans hF))
  have zw1 := (unhide F3).size
  rw [zW] at zw1
  clear hN hF HP1 hb1 eT1 N0 F0
  go_wp2_with fail
  go_end0
  refine ⟨rfl, bvw1, kAny, ?_, fine_mk (toList_mk [95]) (by decide) (by decide), FW.trans (unhide F3)⟩
  show PN w1 B pb bvw1 (l ++ (sep last ++ [95])) kAny mv
  rw [show l ++ (sep last ++ [95]) = (l ++ (sep last ++ [95])) by simp]
  exact unhide N2
set_option maxRecDepth 100000 in
set_option maxHeartbeats 2000000 in
theorem bareP_low (s : ByteArray) (n f t a : Nat) (hss : s.size ≤ 1000) : BarePC (.mk 1 s n [] f t a) := by
  intro w B pb bv l last mv Q v h hp hq hl hB
  cases hp with
  | low s n f t a hs =>
  have esh := sh_low s n f t a
  rw [esh] at hl ⊢
  simp only [List.length_append, List.length_cons, List.length_nil] at hl
  have ha0 := taPattern_Low_Any
  have ha1 := taPattern_Low_Low
  obtain ⟨n1, n2, n3⟩ := low_ne hs
  have hfi := fine_low hs
  have hbW : Below w.heap.size w (w.alloc (.cells #[.int .i64 (f : Int), .int .i64 (t : Int), .string s] 195)) := ((Below.refl _ _).alloc (Nat.le_refl _) (.cells #[.int .i64 (f : Int), .int .i64 (t : Int), .string s] 195))
  have zW : (w.alloc (.cells #[.int .i64 (f : Int), .int .i64 (t : Int), .string s] 195)).heap.size = w.heap.size + 1 := by simp
  have FW := FN.of (B := B) (pb := pb) hbW
  have hzp := h.lt
  have N0 := hide (h.bel hbW)
  have F0 := hide (FN.refl B pb (w.alloc (.cells #[.int .i64 (f : Int), .int .i64 (t : Int), .string s] 195)))
  have BXb := hide (Bx.at w #[.int .i64 (f : Int), .int .i64 (t : Int), .string s] 195 (w.heap.size) (by simp))
  have HQ := hide (hq.fn FW)
  clear h hq
  go_enter Tryz.func184, Tryz.ntmps184
  have zp1 := (unhide N0).lt
  rw [zW] at zp1
  have hb1 : Below (w.alloc (.cells #[.int .i64 (f : Int), .int .i64 (t : Int), .string s] 195)).heap.size (w.alloc (.cells #[.int .i64 (f : Int), .int .i64 (t : Int), .string s] 195)) ((w.alloc (.cells #[.int .i64 (f : Int), .int .i64 (t : Int), .string s] 195)).alloc (.cells #[.string s] 9)) := (Below.refl _ _).alloc (Nat.le_refl _) _
  have eT1 : putsL l last [s] = (l ++ (sep last ++ s.toList)) := by
    show (putL' l last s) = _
    rw [putLoose rfl n1 n2 n3]
  have HP1 := puts_C ((unhide N0).bel hb1) [s] (by intro t ht; simp only [List.mem_cons, List.not_mem_nil, or_false] at ht; rcases ht with rfl <;> first | decide | assumption) (by simp) (by first | omega | (simp only [List.length_append, List.length_cons, List.length_nil]; omega)) (w.heap.size + 1) (Bx.at (w.alloc (.cells #[.int .i64 (f : Int), .int .i64 (t : Int), .string s] 195)) #[.string s] 9 (w.heap.size + 1) (by simp)) (by omega) (Or.inr ((Bx.at (w.alloc (.cells #[.int .i64 (f : Int), .int .i64 (t : Int), .string s] 195)) #[.string s] 9 (w.heap.size + 1) (by simp)).nby (by intro x hx c; simp at hx; subst hx; intro q; cases q)))
  rw [eT1] at HP1
  go_wp2_with fail
  refine HP1.mono ?_
  rintro e w1 ⟨rfl, bvw1, hN, hF⟩
  have N2 : Hid (PN w1 B pb bvw1 (l ++ (sep last ++ s.toList)) s mv) := hide hN
  have F3 := hide ((unhide F0).trans ((FN.of hb1).trans hF))
  have zw1 := (unhide F3).size
  rw [zW] at zw1
  clear hN hF HP1 hb1 eT1 N0 F0
  go_wp2_with fail
  go_end0
  refine ⟨rfl, bvw1, s, ?_, hfi, FW.trans (unhide F3)⟩
  show PN w1 B pb bvw1 (l ++ (sep last ++ s.toList)) s mv
  rw [show l ++ (sep last ++ s.toList) = (l ++ (sep last ++ s.toList)) by simp]
  exact unhide N2
set_option maxRecDepth 100000 in
set_option maxHeartbeats 2000000 in
theorem bareP_unit (s : ByteArray) (n f t a : Nat) : BarePC (.mk 5 s n [] f t a) := by
  intro w B pb bv l last mv Q v h hp hq hl hB
  cases hp with
  | unit s n f t a =>
  have esh := sh_unit s n f t a
  rw [esh] at hl ⊢
  simp only [List.length_append, List.length_cons, List.length_nil] at hl
  have ha0 := taPattern_Unit_Any
  have ha1 := taPattern_Unit_Low
  have ha2 := taPattern_Unit_Number
  have ha3 := taPattern_Unit_Bool
  have ha4 := taPattern_Unit_Unit
  have hbW : Below w.heap.size w (w.alloc (.cells #[.int .i64 (f : Int), .int .i64 (t : Int)] 242)) := ((Below.refl _ _).alloc (Nat.le_refl _) (.cells #[.int .i64 (f : Int), .int .i64 (t : Int)] 242))
  have zW : (w.alloc (.cells #[.int .i64 (f : Int), .int .i64 (t : Int)] 242)).heap.size = w.heap.size + 1 := by simp
  have FW := FN.of (B := B) (pb := pb) hbW
  have hzp := h.lt
  have N0 := hide (h.bel hbW)
  have F0 := hide (FN.refl B pb (w.alloc (.cells #[.int .i64 (f : Int), .int .i64 (t : Int)] 242)))
  have BXb := hide (Bx.at w #[.int .i64 (f : Int), .int .i64 (t : Int)] 242 (w.heap.size) (by simp))
  have HQ := hide (hq.fn FW)
  clear h hq
  go_enter Tryz.func184, Tryz.ntmps184
  have zp1 := (unhide N0).lt
  rw [zW] at zp1
  have hb1 : Below (w.alloc (.cells #[.int .i64 (f : Int), .int .i64 (t : Int)] 242)).heap.size (w.alloc (.cells #[.int .i64 (f : Int), .int .i64 (t : Int)] 242)) ((w.alloc (.cells #[.int .i64 (f : Int), .int .i64 (t : Int)] 242)).alloc (.cells #[.string kOpn, .string kClose] 9)) := (Below.refl _ _).alloc (Nat.le_refl _) _
  have eT1 : putsL l last [kOpn, kClose] = ((l ++ (sep last ++ [40])) ++ [41]) := by
    show (putL' (putL' l last kOpn) kOpn kClose) = _
    rw [putLoose (toList_mk [40]) (by decide) (by decide) (by decide), putTight (toList_mk [41]) (by decide)]
  have HP1 := puts_C ((unhide N0).bel hb1) [kOpn, kClose] (by intro t ht; simp only [List.mem_cons, List.not_mem_nil, or_false] at ht; rcases ht with rfl | rfl <;> first | decide | assumption) (by simp) (by first | omega | (simp only [List.length_append, List.length_cons, List.length_nil]; omega)) (w.heap.size + 1) (Bx.at (w.alloc (.cells #[.int .i64 (f : Int), .int .i64 (t : Int)] 242)) #[.string kOpn, .string kClose] 9 (w.heap.size + 1) (by simp)) (by omega) (Or.inr ((Bx.at (w.alloc (.cells #[.int .i64 (f : Int), .int .i64 (t : Int)] 242)) #[.string kOpn, .string kClose] 9 (w.heap.size + 1) (by simp)).nby (by intro x hx c; simp at hx; subst hx; intro q; cases q)))
  rw [eT1] at HP1
  go_wp2_with fail
  refine HP1.mono ?_
  rintro e w1 ⟨rfl, bvw1, hN, hF⟩
  have N2 : Hid (PN w1 B pb bvw1 ((l ++ (sep last ++ [40])) ++ [41]) kClose mv) := hide hN
  have F3 := hide ((unhide F0).trans ((FN.of hb1).trans hF))
  have zw1 := (unhide F3).size
  rw [zW] at zw1
  clear hN hF HP1 hb1 eT1 N0 F0
  go_wp2_with fail
  go_end0
  refine ⟨rfl, bvw1, kClose, ?_, fine_mk (toList_mk [41]) (by decide) (by decide), FW.trans (unhide F3)⟩
  show PN w1 B pb bvw1 (l ++ (sep last ++ [40, 41])) kClose mv
  rw [show l ++ (sep last ++ [40, 41]) = ((l ++ (sep last ++ [40])) ++ [41]) by simp]
  exact unhide N2
set_option maxRecDepth 100000 in
set_option maxHeartbeats 2000000 in
theorem bareP_word (s : ByteArray) (n f t a : Nat) (hss : s.size ≤ 1000) : BarePC (.mk 4 s n [] f t a) := by
  intro w B pb bv l last mv Q v h hp hq hl hB
  cases hp with
  | word s n f t a hs =>
  have esh := sh_word s n f t a
  rw [esh] at hl ⊢
  simp only [List.length_append, List.length_cons, List.length_nil] at hl
  have ha0 := taPattern_Bool_Any
  have ha1 := taPattern_Bool_Low
  have ha2 := taPattern_Bool_Number
  have ha3 := taPattern_Bool_Bool
  have htl := tl_of hs
  generalize (s.toList == [116, 114, 117, 101]) = bb at htl ⊢
  have hws : (boolW bb).size ≤ 1000 := by unfold boolW; split <;> decide
  have hwn : (boolW bb).toList ≠ [41] ∧ (boolW bb).toList ≠ [44] ∧ (boolW bb).toList ≠ [59] ∧ Fine (boolW bb) := by
    unfold Fine boolW
    cases bb <;> simp [ByteArray.toList_eq]
  obtain ⟨n1, n2, n3, hfi⟩ := hwn
  rw [← htl] at hl ⊢
  clear htl
  have hbW : Below w.heap.size w (w.alloc (.cells #[.int .i64 (f : Int), .int .i64 (t : Int), .bool bb] 201)) := ((Below.refl _ _).alloc (Nat.le_refl _) (.cells #[.int .i64 (f : Int), .int .i64 (t : Int), .bool bb] 201))
  have zW : (w.alloc (.cells #[.int .i64 (f : Int), .int .i64 (t : Int), .bool bb] 201)).heap.size = w.heap.size + 1 := by simp
  have FW := FN.of (B := B) (pb := pb) hbW
  have hzp := h.lt
  have N0 := hide (h.bel hbW)
  have F0 := hide (FN.refl B pb (w.alloc (.cells #[.int .i64 (f : Int), .int .i64 (t : Int), .bool bb] 201)))
  have BXb := hide (Bx.at w #[.int .i64 (f : Int), .int .i64 (t : Int), .bool bb] 201 (w.heap.size) (by simp))
  have HQ := hide (hq.fn FW)
  clear h hq
  go_enter Tryz.func184, Tryz.ntmps184
  go_wp2_with fail
  refine (formatBool_C bb).mono ?_
  rintro e w' ⟨rfl, rfl⟩
  have zp1 := (unhide N0).lt
  rw [zW] at zp1
  have hb1 : Below (w.alloc (.cells #[.int .i64 (f : Int), .int .i64 (t : Int), .bool bb] 201)).heap.size (w.alloc (.cells #[.int .i64 (f : Int), .int .i64 (t : Int), .bool bb] 201)) ((w.alloc (.cells #[.int .i64 (f : Int), .int .i64 (t : Int), .bool bb] 201)).alloc (.cells #[.string (boolW bb)] 9)) := (Below.refl _ _).alloc (Nat.le_refl _) _
  have eT1 : putsL l last [(boolW bb)] = (l ++ (sep last ++ (boolW bb).toList)) := by
    show (putL' l last (boolW bb)) = _
    rw [putLoose rfl n1 n2 n3]
  have HP1 := puts_C ((unhide N0).bel hb1) [(boolW bb)] (by intro t ht; simp only [List.mem_cons, List.not_mem_nil, or_false] at ht; rcases ht with rfl <;> first | decide | assumption) (by simp) (by first | omega | (simp only [List.length_append, List.length_cons, List.length_nil]; omega)) (w.heap.size + 1) (Bx.at (w.alloc (.cells #[.int .i64 (f : Int), .int .i64 (t : Int), .bool bb] 201)) #[.string (boolW bb)] 9 (w.heap.size + 1) (by simp)) (by omega) (Or.inr ((Bx.at (w.alloc (.cells #[.int .i64 (f : Int), .int .i64 (t : Int), .bool bb] 201)) #[.string (boolW bb)] 9 (w.heap.size + 1) (by simp)).nby (by intro x hx c; simp at hx; subst hx; intro q; cases q)))
  rw [eT1] at HP1
  go_wp2_with fail
  refine HP1.mono ?_
  rintro e w1 ⟨rfl, bvw1, hN, hF⟩
  have N2 : Hid (PN w1 B pb bvw1 (l ++ (sep last ++ (boolW bb).toList)) (boolW bb) mv) := hide hN
  have F3 := hide ((unhide F0).trans ((FN.of hb1).trans hF))
  have zw1 := (unhide F3).size
  rw [zW] at zw1
  clear hN hF HP1 hb1 eT1 N0 F0
  go_wp2_with fail
  go_end0
  refine ⟨rfl, bvw1, (boolW bb), ?_, hfi, FW.trans (unhide F3)⟩
  show PN w1 B pb bvw1 (l ++ (sep last ++ (boolW bb).toList)) (boolW bb) mv
  rw [show l ++ (sep last ++ (boolW bb).toList) = (l ++ (sep last ++ (boolW bb).toList)) by simp]
  exact unhide N2
set_option maxRecDepth 100000 in
set_option maxHeartbeats 2000000 in
theorem bareP_num (s : ByteArray) (n f t a : Nat) (HI : ItoaC) (hn : n < 1000000000) : BarePC (.mk 3 s n [] f t a) := by
  intro w B pb bv l last mv Q v h hp hq hl hB
  cases hp with
  | num s n f t a =>
  have esh := sh_num s n f t a
  rw [esh] at hl ⊢
  simp only [List.length_append, List.length_cons, List.length_nil] at hl
  have ha0 := taPattern_Number_Any
  have ha1 := taPattern_Number_Low
  have ha2 := taPattern_Number_Number
  obtain ⟨n1, n2, n3, n4, n5⟩ := dec_ne n
  have hfi : Fine (bs (dec n)) := by unfold Fine; rw [bs_list]; exact ⟨n4, n5⟩
  rw [← bs_list (dec n)] at n1 n2 n3
  have hds : (bs (dec n)).size ≤ 1000 := by rw [bs_size]; have := dec_pow 8 n (by omega); omega
  have hbW : Below w.heap.size w (w.alloc (.cells #[.int .i64 (f : Int), .int .i64 (t : Int), .int .i64 (n : Int)] 198)) := ((Below.refl _ _).alloc (Nat.le_refl _) (.cells #[.int .i64 (f : Int), .int .i64 (t : Int), .int .i64 (n : Int)] 198))
  have zW : (w.alloc (.cells #[.int .i64 (f : Int), .int .i64 (t : Int), .int .i64 (n : Int)] 198)).heap.size = w.heap.size + 1 := by simp
  have FW := FN.of (B := B) (pb := pb) hbW
  have hzp := h.lt
  have N0 := hide (h.bel hbW)
  have F0 := hide (FN.refl B pb (w.alloc (.cells #[.int .i64 (f : Int), .int .i64 (t : Int), .int .i64 (n : Int)] 198)))
  have BXb := hide (Bx.at w #[.int .i64 (f : Int), .int .i64 (t : Int), .int .i64 (n : Int)] 198 (w.heap.size) (by simp))
  have HQ := hide (hq.fn FW)
  clear h hq
  go_enter Tryz.func184, Tryz.ntmps184
  go_wp2_with fail
  refine (HI _ n hn (unhide HQ).p).mono ?_
  rintro e wi ⟨rfl, hbi⟩
  have Ni := hide ((unhide N0).bel hbi)
  have Fi := hide ((unhide F0).trans (FN.of hbi))
  have zi := hbi.size
  rw [zW] at zi
  clear N0 F0 hbi
  have zp1 := (unhide Ni).lt
  have hb1 : Below wi.heap.size wi (wi.alloc (.cells #[.string (bs (dec n))] 9)) := (Below.refl _ _).alloc (Nat.le_refl _) _
  have eT1 : putsL l last [(bs (dec n))] = (l ++ (sep last ++ (bs (dec n)).toList)) := by
    show (putL' l last (bs (dec n))) = _
    rw [putLoose rfl n1 n2 n3]
  have HP1 := puts_C ((unhide Ni).bel hb1) [(bs (dec n))] (by intro t ht; simp only [List.mem_cons, List.not_mem_nil, or_false] at ht; rcases ht with rfl <;> first | decide | assumption) (by simp) (by first | omega | (simp only [List.length_append, List.length_cons, List.length_nil]; omega)) (wi.heap.size) (Bx.at wi #[.string (bs (dec n))] 9 (wi.heap.size) (by simp)) (by omega) (Or.inr ((Bx.at wi #[.string (bs (dec n))] 9 (wi.heap.size) (by simp)).nby (by intro x hx c; simp at hx; subst hx; intro q; cases q)))
  rw [eT1] at HP1
  go_wp2_with fail
  refine HP1.mono ?_
  rintro e w1 ⟨rfl, bvw1, hN, hF⟩
  have N2 : Hid (PN w1 B pb bvw1 (l ++ (sep last ++ (bs (dec n)).toList)) (bs (dec n)) mv) := hide hN
  have F3 := hide ((unhide Fi).trans ((FN.of hb1).trans hF))
  have zw1 := (unhide F3).size
  rw [zW] at zw1
  clear hN hF HP1 hb1 eT1 Ni Fi
  go_wp2_with fail
  go_end0
  refine ⟨rfl, bvw1, (bs (dec n)), ?_, hfi, FW.trans (unhide F3)⟩
  show PN w1 B pb bvw1 (l ++ (sep last ++ dec n)) (bs (dec n)) mv
  rw [show l ++ (sep last ++ dec n) = (l ++ (sep last ++ (bs (dec n)).toList)) by rw [bs_list]]
  exact unhide N2
set_option maxRecDepth 100000 in
set_option maxHeartbeats 2000000 in
theorem bareP_pr (s : ByteArray) (n : Nat) (x y : Nd) (f t a : Nat) (Hx : AtPC x) (Hy : AtPC y) : BarePC (.mk 6 s n [x, y] f t a) := by
  intro w B pb bv l last mv Q v h hp hq hl hB
  cases hp with
  | pr s n x y f t a vx vy hx hy =>
  have hx0 := hx
  have hy0 := hy
  obtain ⟨tx, xx, rfl⟩ := hx.iface
  obtain ⟨ty, xy, rfl⟩ := hy.iface
  have esh := sh_pr s n x y f t a
  rw [esh] at hl ⊢
  simp only [List.length_append, List.length_cons, List.length_nil] at hl
  have ha0 := taPattern_PatternPair_Any
  have ha1 := taPattern_PatternPair_Low
  have ha2 := taPattern_PatternPair_Number
  have ha3 := taPattern_PatternPair_Bool
  have ha4 := taPattern_PatternPair_Unit
  have ha5 := taPattern_PatternPair_Made
  have ha6 := taPattern_PatternPair_PatternPair
  have hbW : Below w.heap.size w (w.alloc (.cells #[.int .i64 (f : Int), .int .i64 (t : Int), .iface tx (.agg xx), .iface ty (.agg xy)] 252)) := ((Below.refl _ _).alloc (Nat.le_refl _) (.cells #[.int .i64 (f : Int), .int .i64 (t : Int), .iface tx (.agg xx), .iface ty (.agg xy)] 252))
  have zW : (w.alloc (.cells #[.int .i64 (f : Int), .int .i64 (t : Int), .iface tx (.agg xx), .iface ty (.agg xy)] 252)).heap.size = w.heap.size + 1 := by simp
  have FW := FN.of (B := B) (pb := pb) hbW
  have hzp := h.lt
  have N0 := hide (h.bel hbW)
  have F0 := hide (FN.refl B pb (w.alloc (.cells #[.int .i64 (f : Int), .int .i64 (t : Int), .iface tx (.agg xx), .iface ty (.agg xy)] 252)))
  have BXb := hide (Bx.at w #[.int .i64 (f : Int), .int .i64 (t : Int), .iface tx (.agg xx), .iface ty (.agg xy)] 252 (w.heap.size) (by simp))
  have Vx := hide (hx0.bel hbW)
  have Vy := hide (hy0.bel hbW)
  have HQ := hide (hq.fn FW)
  clear h hq
  go_enter Tryz.func184, Tryz.ntmps184
  have zp1 := (unhide N0).lt
  rw [zW] at zp1
  have hb1 : Below (w.alloc (.cells #[.int .i64 (f : Int), .int .i64 (t : Int), .iface tx (.agg xx), .iface ty (.agg xy)] 252)).heap.size (w.alloc (.cells #[.int .i64 (f : Int), .int .i64 (t : Int), .iface tx (.agg xx), .iface ty (.agg xy)] 252)) ((w.alloc (.cells #[.int .i64 (f : Int), .int .i64 (t : Int), .iface tx (.agg xx), .iface ty (.agg xy)] 252)).alloc (.cells #[.string kOpn] 9)) := (Below.refl _ _).alloc (Nat.le_refl _) _
  have eT1 : putsL l last [kOpn] = (l ++ (sep last ++ [40])) := by
    show (putL' l last kOpn) = _
    rw [putLoose (toList_mk [40]) (by decide) (by decide) (by decide)]
  have HP1 := puts_C ((unhide N0).bel hb1) [kOpn] (by intro t ht; simp only [List.mem_cons, List.not_mem_nil, or_false] at ht; rcases ht with rfl <;> first | decide | assumption) (by simp) (by first | omega | (simp only [List.length_append, List.length_cons, List.length_nil]; omega)) (w.heap.size + 1) (Bx.at (w.alloc (.cells #[.int .i64 (f : Int), .int .i64 (t : Int), .iface tx (.agg xx), .iface ty (.agg xy)] 252)) #[.string kOpn] 9 (w.heap.size + 1) (by simp)) (by omega) (Or.inr ((Bx.at (w.alloc (.cells #[.int .i64 (f : Int), .int .i64 (t : Int), .iface tx (.agg xx), .iface ty (.agg xy)] 252)) #[.string kOpn] 9 (w.heap.size + 1) (by simp)).nby (by intro x hx c; simp at hx; subst hx; intro q; cases q)))
  rw [eT1] at HP1
  go_wp2_with fail
  refine HP1.mono ?_
  rintro e w1 ⟨rfl, bvw1, hN, hF⟩
  have N2 : Hid (PN w1 B pb bvw1 (l ++ (sep last ++ [40])) kOpn mv) := hide hN
  have F3 := hide ((unhide F0).trans ((FN.of hb1).trans hF))
  have zw1 := (unhide F3).size
  rw [zW] at zw1
  clear hN hF HP1 hb1 eT1 N0 F0
  obtain ⟨c4, fc4, zc4⟩ := (unhide F3).pn_ne (unhide BXb) (by omega) (by intro x hx c; simp at hx; subst hx; intro q; cases q)
  have HS5 := Hx w1 B pb _ _ kOpn mv Q _ 0 (unhide N2) ((unhide Vx).fnQ (unhide HQ) (unhide F3)) ((unhide HQ).fn (unhide F3)) (by omega) (by rw [sep_opn]; rw [atPt_0]; simp only [List.length_append, List.length_cons, List.length_nil]; omega) hB
  rw [sep_opn] at HS5
  rw [atPt_0] at HS5
  go_wp2_with fail
  clear c4 fc4 zc4
  refine HS5.mono ?_
  rintro e w2 ⟨rfl, bvw2, lastw2, hN, fiw2, hF⟩
  have N6 := hide hN
  have F7 := hide ((unhide F3).trans hF)
  have zw2 := (unhide F7).size
  rw [zW] at zw2
  clear hN hF HS5 N2 F3
  have zp8 := (unhide N6).lt
  have hb8 : Below w2.heap.size w2 (w2.alloc (.cells #[.string kComma] 9)) := (Below.refl _ _).alloc (Nat.le_refl _) _
  have eT8 : putsL ((l ++ (sep last ++ [40])) ++ ([] ++ sh x)) lastw2 [kComma] = (((l ++ (sep last ++ [40])) ++ ([] ++ sh x)) ++ [44]) := by
    show (putL' ((l ++ (sep last ++ [40])) ++ ([] ++ sh x)) lastw2 kComma) = _
    rw [putTight (toList_mk [44]) (by decide)]
  have HP8 := puts_C ((unhide N6).bel hb8) [kComma] (by intro t ht; simp only [List.mem_cons, List.not_mem_nil, or_false] at ht; rcases ht with rfl <;> first | decide | assumption) (by simp) (by first | omega | (simp only [List.length_append, List.length_cons, List.length_nil]; omega)) (w2.heap.size) (Bx.at w2 #[.string kComma] 9 (w2.heap.size) (by simp)) (by omega) (Or.inr ((Bx.at w2 #[.string kComma] 9 (w2.heap.size) (by simp)).nby (by intro x hx c; simp at hx; subst hx; intro q; cases q)))
  rw [eT8] at HP8
  go_wp2_with fail
  refine HP8.mono ?_
  rintro e w3 ⟨rfl, bvw3, hN, hF⟩
  have N9 : Hid (PN w3 B pb bvw3 (((l ++ (sep last ++ [40])) ++ ([] ++ sh x)) ++ [44]) kComma mv) := hide hN
  have F10 := hide ((unhide F7).trans ((FN.of hb8).trans hF))
  have zw3 := (unhide F10).size
  rw [zW] at zw3
  clear hN hF HP8 hb8 eT8 N6 F7
  obtain ⟨c11, fc11, zc11⟩ := (unhide F10).pn_ne (unhide BXb) (by omega) (by intro x hx c; simp at hx; subst hx; intro q; cases q)
  have HS12 := Hy w3 B pb _ _ kComma mv Q _ 0 (unhide N9) ((unhide Vy).fnQ (unhide HQ) (unhide F10)) ((unhide HQ).fn (unhide F10)) (by omega) (by rw [sepTok (toList_mk [44]) (by decide) (by decide)]; rw [atPt_0]; simp only [List.length_append, List.length_cons, List.length_nil]; omega) hB
  rw [sepTok (toList_mk [44]) (by decide) (by decide)] at HS12
  rw [atPt_0] at HS12
  go_wp2_with fail
  clear c11 fc11 zc11
  refine HS12.mono ?_
  rintro e w4 ⟨rfl, bvw4, lastw4, hN, fiw4, hF⟩
  have N13 := hide hN
  have F14 := hide ((unhide F10).trans hF)
  have zw4 := (unhide F14).size
  rw [zW] at zw4
  clear hN hF HS12 N9 F10
  have zp15 := (unhide N13).lt
  have hb15 : Below w4.heap.size w4 (w4.alloc (.cells #[.string kClose] 9)) := (Below.refl _ _).alloc (Nat.le_refl _) _
  have eT15 : putsL ((((l ++ (sep last ++ [40])) ++ ([] ++ sh x)) ++ [44]) ++ ([32] ++ sh y)) lastw4 [kClose] = (((((l ++ (sep last ++ [40])) ++ ([] ++ sh x)) ++ [44]) ++ ([32] ++ sh y)) ++ [41]) := by
    show (putL' ((((l ++ (sep last ++ [40])) ++ ([] ++ sh x)) ++ [44]) ++ ([32] ++ sh y)) lastw4 kClose) = _
    rw [putTight (toList_mk [41]) (by decide)]
  have HP15 := puts_C ((unhide N13).bel hb15) [kClose] (by intro t ht; simp only [List.mem_cons, List.not_mem_nil, or_false] at ht; rcases ht with rfl <;> first | decide | assumption) (by simp) (by first | omega | (simp only [List.length_append, List.length_cons, List.length_nil]; omega)) (w4.heap.size) (Bx.at w4 #[.string kClose] 9 (w4.heap.size) (by simp)) (by omega) (Or.inr ((Bx.at w4 #[.string kClose] 9 (w4.heap.size) (by simp)).nby (by intro x hx c; simp at hx; subst hx; intro q; cases q)))
  rw [eT15] at HP15
  go_wp2_with fail
  refine HP15.mono ?_
  rintro e w5 ⟨rfl, bvw5, hN, hF⟩
  have N16 : Hid (PN w5 B pb bvw5 (((((l ++ (sep last ++ [40])) ++ ([] ++ sh x)) ++ [44]) ++ ([32] ++ sh y)) ++ [41]) kClose mv) := hide hN
  have F17 := hide ((unhide F14).trans ((FN.of hb15).trans hF))
  have zw5 := (unhide F17).size
  rw [zW] at zw5
  clear hN hF HP15 hb15 eT15 N13 F14
  go_wp2_with fail
  go_end0
  refine ⟨rfl, bvw5, kClose, ?_, fine_mk (toList_mk [41]) (by decide) (by decide), FW.trans (unhide F17)⟩
  show PN w5 B pb bvw5 (l ++ (sep last ++ 40 :: (sh x ++ ([44, 32] ++ (sh y ++ [41]))))) kClose mv
  rw [show l ++ (sep last ++ 40 :: (sh x ++ ([44, 32] ++ (sh y ++ [41])))) = (((((l ++ (sep last ++ [40])) ++ ([] ++ sh x)) ++ [44]) ++ ([32] ++ sh y)) ++ [41]) by simp]
  exact unhide N16
end
end Go.Proofs.YteneoapickhpdaaGreatDoor
