import Derived.Test.YtfflpeklkfjdnaaGreatDoorKTo
import Derived.Test.YtfflpeklkfjdnaaGreatDoorKTf
set_option linter.unusedSimpArgs false
set_option linter.unusedVariables false
set_option linter.unusedSectionVars false
namespace Go.Proofs.YtfflpeklkfjdnaaGreatDoor
open Go Go.RowKit Un
theorem intInfo : (Tryz.prog.info? 3).map (fun i => (i.zero, i.size, i.bytes)) = some (some (.int .i64 0), 1, 8) := by kernel_rfl
theorem intsUnder : Tryz.prog.underlying 89 = some (.slice 3) := by kernel_rfl
def ints (l : List Nat) : List Value := l.map fun (n : Nat) => .int .i64 (n : Int)
/-- What looking for a variable among those met promises. -/
def VarsPost (base : Nat) (lv : Value) (l : List Nat) (n : Nat) (w : World) (e : Ending) (w' : World) : Prop :=
  ∃ lv', e = .returned lv' ∧ w'.ownsRow base 3 1 lv' (Un.seen l n).length (ints (Un.seen l n)) ∧ Fr (fun b => lv.ownBlock = some b) w w' ∧ (∀ b, lv'.ownBlock = some b → lv.ownBlock = some b ∨ w.heap.size ≤ b)
section
variable {w : World} {kb : Nat} {hv iv : Value} {N : Nat} {K : Nat → Option Ty} {P : Nat → Prop} {R : Nat → Ty} {rk : Nat → Nat}

set_option maxRecDepth 100000 in
set_option maxHeartbeats 2000000 in
theorem vars_C (h : KS w kb hv iv N K P) (hK : Knw K R rk) {n : Nat} (hn : 0 < n) (hnN : n ≤ N) (ho : K n = none) {base : Nat} {lv : Value} {l : List Nat} (hl : w.ownsRow base 3 1 lv l.length (ints l)) (hL : l.length ≤ 1000) (hb : base ≤ w.heap.size) :
    Calls Tryz.prog 70 #[.pointer (some ⟨kb, 0, none⟩), TV.v ⟨(n : Int), ⟨#[]⟩, none, 0, 0⟩, lv] w (VarsPost base lv l n w) := by
  obtain ⟨i0, hi0, hz0, hz1, hz2⟩ := info_parts intInfo
  obtain ⟨la, ca, rfl⟩ := own_slice hl
  have H := hide h
  have HK := hide hK
  have HO := hide ho
  have HL := hide hl
  have B0 := hide (Bx.new w #[.int .i64 (n : Int), .string ⟨#[]⟩, .slice none 0 0] 85)
  have HB := hide ((Below.refl w.heap.size w).alloc (Nat.le_refl _) (.cells #[.int .i64 (n : Int), .string ⟨#[]⟩, .slice none 0 0] 85))
  clear h hK ho hl
  unfold TV.v
  go_enter Tryz.func70, Tryz.ntmps70
  obtain ⟨c0, f0, y0⟩ := unhide B0
  go_wp2_with fail
  refine (look_C ((unhide H).bel (unhide HB)) (unhide HK) (TR.var n hn hnN)).mono ?_
  rintro e w1 ⟨t1, x1, rfl, hb1, hT, hR, hO⟩
  obtain ⟨rfl, rfl⟩ : t1 = .var n ∧ x1 = ⟨(n : Int), ⟨#[]⟩, none, 0, 0⟩ := by
    have e1 : sub R (.var n) = .var n := by simpa [sub] using (unhide HK).open_ n (unhide HO)
    rw [e1] at hR
    cases hT with
    | var m hm hmN =>
      have := (unhide HK).open_ m (hO m rfl)
      simp [sub, this] at hR
      subst hR
      exact ⟨rfl, rfl⟩
    | leaf c => simp [sub] at hR
    | row c => simp [sub] at hR
  have B1 := hide ((unhide B0).below hb1)
  have HB1 := hide ((unhide HB).trans (hb1.mono (by simp)))
  clear hT hR hO B0 HB c0 f0 y0 hb1
  obtain ⟨c0, f0, y0⟩ := unhide B1
  have hn' : (0 : Int) < (n : Int) := by omega
  unfold TV.v
  go_wp2_with fail
  go_loopg [7] l.length (fun gk c wr => ∃ j : Nat, Hid (gk = l.length - j) ∧ j ≤ l.length ∧ c = .int .i64 (j : Int) ∧ (∀ i (h : i < l.length), i < j → l[i] ≠ n) ∧ Below w.heap.size w wr ∧ Bx wr w.heap.size #[.int .i64 (n : Int), .string ⟨#[]⟩, .slice none 0 0])
  case atStart => exact ⟨0, hide rfl, Nat.zero_le _, rfl, fun i _ h => by omega, (unhide HB1).set3 (Nat.le_refl _) _ _ _, (unhide B1).set3 rfl _ _ _⟩
  case round =>
    clear B1 HB1 c0 f0 y0
    obtain ⟨j, hgk, hj, rfl, hno, HB, B0⟩ := hrel
    have HB := hide HB
    have B0 := hide B0
    have hno := hide hno
    obtain ⟨c0, f0, y0⟩ := unhide B0
    by_cases hlt : j < l.length
    · have hlt' : (j : Int) < (l.length : Int) := by omega
      obtain ⟨g, q, e, zg, _⟩ := own_open (unhide HL) (by omega)
      cases e
      have d0 := (oldCell (unhide HB) g _ zg).trans (own_cell (unhide HL) j (by omega))
      rw [show (ints l)[j]? = some (.int .i64 ((l[j] : Nat) : Int)) by simp [ints, hlt]] at d0
      cases he : (((l[j] : Nat) : Int) == (n : Int)) with
      | true =>
        have Hm : Hid (n ∈ l) := by
          have : l[j] = n := by have := he; simp at this; omega
          exact this ▸ List.getElem_mem _
        go_wp2_with fail
        go_quiet (fail)
        go_wp2_with fail
        go_ret
        have es : Un.seen l n = l := by rw [Un.seen, if_pos (unhide Hm)]
        refine ⟨_, rfl, ?_, ?_, ?_⟩
        · rw [es]; exact own_below (unhide HL) ((unhide HB).drewN _)
        · exact Fr.of ((unhide HB).drewN _)
        · exact fun b e => Or.inl e
      | false =>
        have hne : Hid (l[j] ≠ n) := fun e => by rw [e] at he; simp at he
        go_wp2_with fail
        go_quiet (fail)
        go_wp2_with fail
        go_roundg (l.length - (j + 1))
        case measure => rw [unhide hgk]; omega
        case rel =>
          refine ⟨j + 1, hide rfl, by omega, by go_num, fun i hi h => ?_, (unhide HB).drewN _, (unhide B0).drewN _⟩
          by_cases e : i = j
          · subst e; exact unhide hne
          · exact unhide hno i hi (by omega)
    · have hlt' : decide ((j : Int) < (l.length : Int)) = false := by simp; omega
      have es : Hid (Un.seen l n = l ++ [n]) := by
        show _ = _
        rw [Un.seen, if_neg]
        intro hm
        obtain ⟨i, hi, e⟩ := List.getElem_of_mem hm
        exact unhide hno i hi (by omega) e
      have hsz := (unhide HB).size
      go_wp2_with (at_builtin; go_must (refine wpList_append_own_at _ rfl (.tmp 29) (.tmp 32) 89 rfl base 3 i0 _ 1 8 intsUnder hi0 hz0 hz1 hz2 rfl (by decide) (.slice la l.length ca) l.length _ rfl ((own_below (unhide HL) (unhide HB)).alloc _) ⟨wr.heap.size, 0, none⟩ 1 1 [.int .i64 (n : Int)] rfl rfl (cells_at _ _ _ _ (by simp)) (by intro u hu; simp at hu; subst hu; rfl) (by unfold maxLen; omega) (by omega) (by simp; omega) ?_; intro v3 w3 hown3 hg3 hnil3 hloc3; have Hown3 := hide hown3; have Hg3 := hide hg3; have Hloc3 := hide hloc3; clear hown3 hg3 hnil3 hloc3))
      go_ret
      refine ⟨_, rfl, ?_, ?_, ?_⟩
      · rw [unhide es]
        have := unhide Hown3
        simpa [ints] using this
      · have b3 := (unhide HB).alloc (by omega) (.cells #[.int .i64 (n : Int)] 3)
        exact ⟨(unhide Hg3).os.trans b3.os, (unhide Hg3).tape.trans b3.tape, (unhide Hg3).output.trans b3.output, Nat.le_trans b3.size (unhide Hg3).size, fun b hb hn => ((unhide Hg3).block b (by simp; omega) (fun e => hn e.symm)).trans (b3.block b hb)⟩
      · intro b e
        rcases unhide Hloc3 with k | k
        · exact Or.inl (k ▸ e)
        · right
          have : some b = some (wr.alloc (.cells #[.int .i64 (n : Int)] 3)).heap.size := e.symm.trans k
          simp at this; omega
end
end Go.Proofs.YtfflpeklkfjdnaaGreatDoor
namespace Go.Proofs.YtfflpeklkfjdnaaGreatDoor
open Go Go.RowKit Un
/-- The pen, as it lies in memory: what is known, and the variables met. -/
structure PS (w : World) (pb kb base : Nat) (lv : Value) (l : List Nat) : Prop where
  c0 : w.cell? ⟨pb, 0, none⟩ = some (.pointer (some ⟨kb, 0, none⟩))
  c1 : w.cell? ⟨pb, 1, none⟩ = some lv
  fz : ∀ j, w.frozen? ⟨pb, j, none⟩ = false
  hk : pb < w.heap.size
  ol : w.ownsRow base 3 1 lv l.length (ints l)
  nl : lv.ownBlock ≠ some pb
def SW (pb : Nat) (lv : Value) (b : Nat) : Prop := b = pb ∨ lv.ownBlock = some b
structure WS (w : World) (pb kb base : Nat) (hv iv : Value) (N : Nat) (K : Nat → Option Ty) (P : Nat → Prop) (lv : Value) (l : List Nat) : Prop where
  ks : KS w kb hv iv N K P
  ps : PS w pb kb base lv l
  dj : ∀ b, SW pb lv b → ¬ (b = kb ∨ KB hv iv b ∨ P b)
  hb : base ≤ w.heap.size
section
variable {w w' : World} {pb kb base : Nat} {hv iv : Value} {N : Nat} {K : Nat → Option Ty} {P : Nat → Prop} {lv : Value} {l : List Nat}
theorem PS.same (h : PS w pb kb base lv l) (hs : w.heap.size ≤ w'.heap.size) (hb : ∀ b, b < w.heap.size → SW pb lv b → w'.heap[b]? = w.heap[b]?) : PS w' pb kb base lv l := by
  have k := hb pb h.hk (Or.inl rfl)
  exact ⟨by rw [World.cell?_of_block (a := ⟨pb, 0, none⟩) (w := w) k]; exact h.c0, by rw [World.cell?_of_block (a := ⟨pb, 1, none⟩) (w := w) k]; exact h.c1, fun j => by rw [World.frozen?_of_block (a := ⟨pb, j, none⟩) (w := w) k]; exact h.fz j, Nat.lt_of_lt_of_le h.hk hs, own_same h.ol (fun g e => hb g (own_block h.ol g e).2 (Or.inr e)), h.nl⟩
theorem PS.lt (h : PS w pb kb base lv l) {b : Nat} (hb : SW pb lv b) : b < w.heap.size := by
  rcases hb with rfl | hb
  · exact h.hk
  · exact (own_block h.ol b hb).2
theorem WS.low (h : WS w pb kb base hv iv N K P lv l) : WS w pb kb base hv iv N K (fun b => P b ∧ b < w.heap.size) lv l :=
  ⟨h.ks.low, h.ps, fun b s k => h.dj b s (by rcases k with k | k | k; exact Or.inl k; exact Or.inr (Or.inl k); exact Or.inr (Or.inr k.1)), h.hb⟩
theorem WS.same (h : WS w pb kb base hv iv N K P lv l) (hs : w.heap.size ≤ w'.heap.size) (hb : ∀ b, b < w.heap.size → (SW pb lv b ∨ b = kb ∨ KB hv iv b ∨ P b) → w'.heap[b]? = w.heap[b]?) : WS w' pb kb base hv iv N K P lv l :=
  ⟨h.ks.same hs fun b z k => hb b z (Or.inr k), h.ps.same hs fun b z k => hb b z (Or.inl k), h.dj, Nat.le_trans h.hb hs⟩
theorem WS.bel (h : WS w pb kb base hv iv N K P lv l) (hb : Below w.heap.size w w') : WS w' pb kb base hv iv N K P lv l := h.same hb.size fun b z _ => hb.block b z
theorem WS.wide {Q : Nat → Prop} (h : WS w pb kb base hv iv N K P lv l) (hq : ∀ b, P b → Q b) (hk : ∀ b, Q b → P b) : WS w pb kb base hv iv N K Q lv l := by
  obtain ⟨xs, x1, x2, x3⟩ := h.ks.oi
  refine ⟨⟨h.ks.c0, h.ks.c1, h.ks.fz, h.ks.hk, h.ks.oh, ⟨xs, x1, x2, fun i hi t e => (x3 i hi t e).move (Nat.le_refl _) (Nat.le_refl _) (fun _ _ _ => rfl) (fun b p _ => hq b p)⟩, h.ks.nh, h.ks.ni, h.ks.na, fun b q => h.ks.pk b (hk b q), h.ks.hN, h.ks.out⟩, h.ps, fun b s k => h.dj b s ?_, h.hb⟩
  rcases k with k | k | k
  · exact Or.inl k
  · exact Or.inr (Or.inl k)
  · exact Or.inr (Or.inr (hk b k))
end
/-- What writing a type promises. -/
def WrPost (pb kb base : Nat) (hv iv : Value) (N : Nat) (K : Nat → Option Ty) (P : Nat → Prop) (lv : Value) (l : List Nat) (T : Ty) (tight : Nat) (w : World) (e : Ending) (w' : World) : Prop :=
  ∃ lv', e = .returned (.string (bs (wr dec (vars l T) T tight))) ∧ WS w' pb kb base hv iv N K (fun b => P b ∧ b < w.heap.size) lv' (vars l T) ∧ Fr (SW pb lv) w w' ∧ (∀ b, lv'.ownBlock = some b → lv.ownBlock = some b ∨ w.heap.size ≤ b)
theorem seen_len (l : List Nat) (n : Nat) : (Un.seen l n).length ≤ l.length + 1 := by unfold Un.seen; split <;> simp
mutual
theorem vars_len : ∀ (t : Ty) (l : List Nat), (vars l t).length ≤ l.length + size t
  | .var n, l => by have := seen_len l n; simp [vars, size]; omega
  | .con c L, l => by have := varsL_len L l; simp [vars, size]; omega
theorem varsL_len : ∀ (L : List Ty) (l : List Nat), (varsL l L).length ≤ l.length + sizeL L
  | [], l => by simp [varsL, sizeL]
  | t :: L, l => by
      have h1 := vars_len t l
      have h2 := varsL_len L (vars l t)
      simp [varsL, sizeL]; omega
end
mutual
/-- Its names are not too long, and functions and pairs are of two. -/
def Wf : Ty → Prop
  | .var _ => True
  | .con c l => okN c l.length ∧ WfL l
def WfL : List Ty → Prop
  | [] => True
  | t :: l => Wf t ∧ WfL l
end
theorem WfL_iff : ∀ (l : List Ty), WfL l ↔ ∀ t, t ∈ l → Wf t
  | [] => by simp [WfL]
  | a :: l => by simp [WfL, WfL_iff l]
theorem TR.wf {w : World} {P : Nat → Prop} {N : Nat} {t : Ty} {x : TV} (h : TR w P N t x) : Wf t := by
  induction h with
  | var => simp [Wf]
  | leaf c hw => exact ⟨hw, by simp [WfL]⟩
  | row c L g cap xs hw h0 hL hP hz hc hr ih =>
    refine ⟨hw, (WfL_iff L).2 fun t ht => ?_⟩
    obtain ⟨i, hi, rfl⟩ := List.getElem_of_mem ht
    exact ih i hi
theorem occL_iff' (v : Nat) : ∀ (l : List Ty), OccL v l ↔ ∃ t, t ∈ l ∧ Occ v t
  | [] => by simp [OccL]
  | a :: l => by simp [OccL, occL_iff' v l]
mutual
theorem Wf.sub' {R : Nat → Ty} : ∀ t, Wf t → (∀ v, Occ v t → Wf (R v)) → Wf (Un.sub R t)
  | .var n, _, hR => by simpa [Un.sub] using hR n (by simp [Occ])
  | .con c l, h, hR => by simp only [Un.sub, Wf, subL_length]; exact ⟨h.1, WfL.sub' l h.2 (fun v hv => hR v (by simpa [Occ] using hv))⟩
theorem WfL.sub' {R : Nat → Ty} : ∀ l, WfL l → (∀ v, OccL v l → Wf (R v)) → WfL (subL R l)
  | [], _, _ => by simp [subL, WfL]
  | t :: l, h, hR => ⟨Wf.sub' t h.1 (fun v hv => hR v (Or.inl hv)), WfL.sub' l h.2 (fun v hv => hR v (Or.inr hv))⟩
end
/-- What is known is well made in the end, if it is at each step. -/
theorem Knw.wf {K : Nat → Option Ty} {R : Nat → Ty} {rk : Nat → Nat} (h : Knw K R rk) (hk : ∀ n t, K n = some t → Wf t) : ∀ (s r n : Nat), size (R n) ≤ s → rk n ≤ r → Wf (R n)
  | s, r, n, hs, hr => by
      cases e : K n with
      | none => rw [h.open_ n e]; simp [Wf]
      | some t =>
        have e1 := h.shut n t e
        cases t with
        | var u =>
          have e2 : R n = R u := by simpa [Un.sub] using e1
          have := h.rank n u e
          rw [e2]
          match r, hr with
          | 0, hr => omega
          | r + 1, hr => exact Knw.wf h hk s r u (by rw [← e2]; exact hs) (by omega)
        | con c l =>
          have w0 := hk n _ e
          rw [e1]
          simp only [Un.sub, Wf, subL_length]
          refine ⟨w0.1, ?_⟩
          rw [subL_map]
          refine (WfL_iff _).2 fun t ht => ?_
          obtain ⟨u, hu, rfl⟩ := List.mem_map.1 ht
          have wu := (WfL_iff l).1 w0.2 u hu
          have h2 := congrArg size e1
          simp [Un.sub, size] at h2
          have h3 : ∀ v, Occ v u → size (R v) < size (R n) := fun v hv => by
            have := sizeL_occ R v l ((occL_iff' v l).2 ⟨u, hu, hv⟩)
            omega
          exact Wf.sub' u wu (fun v hv => by
            have := h3 v hv
            match s, hs with
            | 0, hs => omega
            | s + 1, hs => exact Knw.wf h hk s (rk v) v (by omega) (Nat.le_refl _))
  termination_by s r => (s, r)
end Go.Proofs.YtfflpeklkfjdnaaGreatDoor
namespace Go.Proofs.YtfflpeklkfjdnaaGreatDoor
open Go Go.RowKit Un
theorem par_len (p : Bool) (s : List UInt8) : (par p s).length ≤ s.length + 2 := by unfold par; split <;> simp
theorem idx_le (n : Nat) : ∀ L : List Nat, L.idxOf n ≤ L.length := fun L => List.idxOf_le_length
mutual
theorem wr_len {L : List Nat} (hL : L.length ≤ 1000) : ∀ t, Wf t → ∀ k, (wr dec L t k).length + 1000 ≤ 3000 * size t
  | .var n, _, k => by
      have h1 := dec_len (L.idxOf n)
      have h2 := idx_le n L
      simp [wr, size]; omega
  | .con c l, h, k => by
      obtain ⟨⟨h1, h2⟩, h3⟩ := h
      have hfl := wrA_len hL l h3
      have hc : c.toList.length = c.size := by rw [ByteArray.toList_eq]; exact Array.length_toList
      simp only [wr, joined]
      split
      · rename_i e
        match l, h2 (Or.inl e), h3 with
        | [u, v], _, h3 =>
          have a := wr_len hL u h3.1 1
          have b := wr_len hL v h3.2.1 0
          have := par_len (decide (0 < k)) (nth (wrA dec L [u, v]) 0 1 ++ ([32, 45, 62, 32] ++ nth (wrA dec L [u, v]) 1 0))
          simp [wrA, nth, size, sizeL] at this ⊢
          omega
      · split
        · rename_i e
          match l, h2 (Or.inr e), h3 with
          | [u, v], _, h3 =>
            have a := wr_len hL u h3.1 0
            have b := wr_len hL v h3.2.1 0
            simp [wrA, nth, size, sizeL]
            omega
        · have := par_len (decide (1 < k) && !(wrA dec L l).isEmpty) (c.toList ++ (wrA dec L l).flatMap fun p => 32 :: p 2)
          simp only [List.length_append] at this
          simp only [size]
          omega
theorem wrA_len {L : List Nat} (hL : L.length ≤ 1000) : ∀ l, WfL l → ((wrA dec L l).flatMap fun p => 32 :: p 2).length ≤ 3000 * sizeL l
  | [], _ => by simp [wrA, sizeL]
  | t :: l, h => by
      have a := wr_len hL t h.1 2
      have b := wrA_len hL l h.2
      simp [wrA, sizeL] at b ⊢
      omega
end
/-- Each part is written alike by a longer list. -/
theorem wr_vars_mid {l : List Nat} {t : Ty} {M : List Nat} (h : vars l t <+: M) : wr dec M t = wr dec (vars l t) t :=
  wr_pre dec h t fun n hn => (mem_vars t l n).2 (Or.inr hn)
end Go.Proofs.YtfflpeklkfjdnaaGreatDoor
