import Derived.Test.YteneoapickhpdaaGreatDoorJGTo
import Derived.Test.YteneoapickhpdaaGreatDoorJGTf
set_option linter.unusedSimpArgs false
set_option linter.unusedVariables false
set_option linter.unusedSectionVars false
namespace Go.Proofs.YteneoapickhpdaaGreatDoor
open Go Go.RowKit Un
def ints (l : List Nat) : List Value := l.map fun (n : Nat) => .int .i64 (n : Int)
/-- What looking for a variable among those met promises. -/
def VarsPost (base : Nat) (lv : Value) (l : List Nat) (n : Nat) (w : World) (e : Ending) (w' : World) : Prop :=
  ∃ lv', e = .returned lv' ∧ w'.ownsRow base 3 1 lv' (Un.seen l n).length (ints (Un.seen l n)) ∧ Fr (fun b => lv.ownBlock = some b) w w' ∧ (∀ b, lv'.ownBlock = some b → lv.ownBlock = some b ∨ w.heap.size ≤ b)
section
variable {w : World} {kb : Nat} {hv iv : Value} {N : Nat} {K : Nat → Option Ty} {P : Nat → Prop} {R : Nat → Ty} {rk : Nat → Nat}

end
end Go.Proofs.YteneoapickhpdaaGreatDoor
namespace Go.Proofs.YteneoapickhpdaaGreatDoor
open Go Go.RowKit Un
/-- The pen, as it lies in memory: what is known, and the variables met. -/
structure PS (w : World) (pb kb base : Nat) (lv : Value) (l : List Nat) : Prop where
  c0 : w.cell? ⟨pb, 0, none⟩ = some (.pointer (some ⟨kb, 0, none⟩))
  c1 : w.cell? ⟨pb, 1, none⟩ = some lv
  fz : ∀ j, w.frozen? ⟨pb, j, none⟩ = false
  hk : pb < w.heap.size
  ol : w.ownsRow base 3 1 lv l.length (ints l)
  nl : lv.ownBlock ≠ some pb
def SW (pb : Nat) (lv : Value) (b : Nat) : Prop := b = pb ∨ lv.ownBlock = some b
section
variable {w w' : World} {pb kb base : Nat} {hv iv : Value} {N : Nat} {K : Nat → Option Ty} {P : Nat → Prop} {lv : Value} {l : List Nat}
theorem PS.same (h : PS w pb kb base lv l) (hs : w.heap.size ≤ w'.heap.size) (hb : ∀ b, b < w.heap.size → SW pb lv b → w'.heap[b]? = w.heap[b]?) : PS w' pb kb base lv l := by
  have k := hb pb h.hk (Or.inl rfl)
  exact ⟨by rw [World.cell?_of_block (a := ⟨pb, 0, none⟩) (w := w) k]; exact h.c0, by rw [World.cell?_of_block (a := ⟨pb, 1, none⟩) (w := w) k]; exact h.c1, fun j => by rw [World.frozen?_of_block (a := ⟨pb, j, none⟩) (w := w) k]; exact h.fz j, Nat.lt_of_lt_of_le h.hk hs, own_same h.ol (fun g e => hb g (own_block h.ol g e).2 (Or.inr e)), h.nl⟩
theorem PS.lt (h : PS w pb kb base lv l) {b : Nat} (hb : SW pb lv b) : b < w.heap.size := by
  rcases hb with rfl | hb
  · exact h.hk
  · exact (own_block h.ol b hb).2
end
theorem seen_len (l : List Nat) (n : Nat) : (Un.seen l n).length ≤ l.length + 1 := by unfold Un.seen; split <;> simp
mutual
theorem vars_len : ∀ (t : Ty) (l : List Nat), (vars l t).length ≤ l.length + size t
  | .var n, l => by have := seen_len l n; simp [vars, size]; omega
  | .con c L, l => by have := varsL_len L l; simp [vars, size]; omega
theorem varsL_len : ∀ (L : List Ty) (l : List Nat), (varsL l L).length ≤ l.length + sizeL L
  | [], l => by simp [varsL, sizeL]
  | t :: L, l => by
      have h1 := vars_len t l
      have h2 := varsL_len L (vars l t)
      simp [varsL, sizeL]; omega
end
mutual
/-- Its names are not too long, and functions and pairs are of two. -/
def Wf : Ty → Prop
  | .var _ => True
  | .con c l => okN c l.length ∧ WfL l
def WfL : List Ty → Prop
  | [] => True
  | t :: l => Wf t ∧ WfL l
end
theorem WfL_iff : ∀ (l : List Ty), WfL l ↔ ∀ t, t ∈ l → Wf t
  | [] => by simp [WfL]
  | a :: l => by simp [WfL, WfL_iff l]
theorem TR.wf {w : World} {P : Nat → Prop} {N : Nat} {t : Ty} {x : TV} (h : TR w P N t x) : Wf t := by
  induction h with
  | var => simp [Wf]
  | leaf c hw => exact ⟨hw, by simp [WfL]⟩
  | row c L g cap xs hw h0 hL hP hz hc hr ih =>
    refine ⟨hw, (WfL_iff L).2 fun t ht => ?_⟩
    obtain ⟨i, hi, rfl⟩ := List.getElem_of_mem ht
    exact ih i hi
theorem occL_iff' (v : Nat) : ∀ (l : List Ty), OccL v l ↔ ∃ t, t ∈ l ∧ Occ v t
  | [] => by simp [OccL]
  | a :: l => by simp [OccL, occL_iff' v l]
mutual
theorem Wf.sub' {R : Nat → Ty} : ∀ t, Wf t → (∀ v, Occ v t → Wf (R v)) → Wf (Un.sub R t)
  | .var n, _, hR => by simpa [Un.sub] using hR n (by simp [Occ])
  | .con c l, h, hR => by simp only [Un.sub, Wf, subL_length]; exact ⟨h.1, WfL.sub' l h.2 (fun v hv => hR v (by simpa [Occ] using hv))⟩
theorem WfL.sub' {R : Nat → Ty} : ∀ l, WfL l → (∀ v, OccL v l → Wf (R v)) → WfL (subL R l)
  | [], _, _ => by simp [subL, WfL]
  | t :: l, h, hR => ⟨Wf.sub' t h.1 (fun v hv => hR v (Or.inl hv)), WfL.sub' l h.2 (fun v hv => hR v (Or.inr hv))⟩
end
/-- What is known is well made in the end, if it is at each step. -/
theorem Knw.wf {K : Nat → Option Ty} {R : Nat → Ty} {rk : Nat → Nat} (h : Knw K R rk) (hk : ∀ n t, K n = some t → Wf t) : ∀ (s r n : Nat), size (R n) ≤ s → rk n ≤ r → Wf (R n)
  | s, r, n, hs, hr => by
      cases e : K n with
      | none => rw [h.open_ n e]; simp [Wf]
      | some t =>
        have e1 := h.shut n t e
        cases t with
        | var u =>
          have e2 : R n = R u := by simpa [Un.sub] using e1
          have := h.rank n u e
          rw [e2]
          match r, hr with
          | 0, hr => omega
          | r + 1, hr => exact Knw.wf h hk s r u (by rw [← e2]; exact hs) (by omega)
        | con c l =>
          have w0 := hk n _ e
          rw [e1]
          simp only [Un.sub, Wf, subL_length]
          refine ⟨w0.1, ?_⟩
          rw [subL_map]
          refine (WfL_iff _).2 fun t ht => ?_
          obtain ⟨u, hu, rfl⟩ := List.mem_map.1 ht
          have wu := (WfL_iff l).1 w0.2 u hu
          have h2 := congrArg size e1
          simp [Un.sub, size] at h2
          have h3 : ∀ v, Occ v u → size (R v) < size (R n) := fun v hv => by
            have := sizeL_occ R v l ((occL_iff' v l).2 ⟨u, hu, hv⟩)
            omega
          exact Wf.sub' u wu (fun v hv => by
            have := h3 v hv
            match s, hs with
            | 0, hs => omega
            | s + 1, hs => exact Knw.wf h hk s (rk v) v (by omega) (Nat.le_refl _))
  termination_by s r => (s, r)
end Go.Proofs.YteneoapickhpdaaGreatDoor
namespace Go.Proofs.YteneoapickhpdaaGreatDoor
open Go Go.RowKit Un
theorem par_len (p : Bool) (s : List UInt8) : (par p s).length ≤ s.length + 2 := by unfold par; split <;> simp
theorem idx_le (n : Nat) : ∀ L : List Nat, L.idxOf n ≤ L.length := fun L => List.idxOf_le_length
mutual
theorem wr_len {L : List Nat} (hL : L.length ≤ 1000) : ∀ t, Wf t → ∀ k, (wr dec L t k).length + 1000 ≤ 3000 * size t
  | .var n, _, k => by
      have h1 := dec_len (L.idxOf n)
      have h2 := idx_le n L
      simp [wr, size]; omega
  | .con c l, h, k => by
      obtain ⟨⟨h1, h2⟩, h3⟩ := h
      have hfl := wrA_len hL l h3
      have hc : c.toList.length = c.size := by rw [ByteArray.toList_eq]; exact Array.length_toList
      simp only [wr, joined]
      split
      · rename_i e
        match l, h2 (Or.inl e), h3 with
        | [u, v], _, h3 =>
          have a := wr_len hL u h3.1 1
          have b := wr_len hL v h3.2.1 0
          have := par_len (decide (0 < k)) (nth (wrA dec L [u, v]) 0 1 ++ ([32, 45, 62, 32] ++ nth (wrA dec L [u, v]) 1 0))
          simp [wrA, nth, size, sizeL] at this ⊢
          omega
      · split
        · rename_i e
          match l, h2 (Or.inr e), h3 with
          | [u, v], _, h3 =>
            have a := wr_len hL u h3.1 0
            have b := wr_len hL v h3.2.1 0
            simp [wrA, nth, size, sizeL]
            omega
        · have := par_len (decide (1 < k) && !(wrA dec L l).isEmpty) (c.toList ++ (wrA dec L l).flatMap fun p => 32 :: p 2)
          simp only [List.length_append] at this
          simp only [size]
          omega
theorem wrA_len {L : List Nat} (hL : L.length ≤ 1000) : ∀ l, WfL l → ((wrA dec L l).flatMap fun p => 32 :: p 2).length ≤ 3000 * sizeL l
  | [], _ => by simp [wrA, sizeL]
  | t :: l, h => by
      have a := wr_len hL t h.1 2
      have b := wrA_len hL l h.2
      simp [wrA, sizeL] at b ⊢
      omega
end
/-- Each part is written alike by a longer list. -/
theorem wr_vars_mid {l : List Nat} {t : Ty} {M : List Nat} (h : vars l t <+: M) : wr dec M t = wr dec (vars l t) t :=
  wr_pre dec h t fun n hn => (mem_vars t l n).2 (Or.inr hn)
end Go.Proofs.YteneoapickhpdaaGreatDoor
