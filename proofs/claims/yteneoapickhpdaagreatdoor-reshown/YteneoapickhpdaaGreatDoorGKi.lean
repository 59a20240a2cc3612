import Derived.Test.YteneoapickhpdaaGreatDoorGKb
set_option linter.unusedSimpArgs false
set_option linter.unusedVariables false
set_option linter.unusedSectionVars false
namespace Go.Proofs.YteneoapickhpdaaGreatDoor
open Go Go.RowKit Un
/-- Bytes that are read as a type, at a level. -/
def TY (v : Nat) (l : List UInt8) (t : Nd) : Prop := ∃ p, Lx true l p ∧ Gr v p t
theorem TY.par {l : List UInt8} {t : Nd} (h : TY 2 l t) : TY 0 (40 :: (l ++ [41])) t := by
  obtain ⟨p, h1, h2⟩ := h
  exact ⟨_, (lx_open.pre (h1.post lx_close rfl (by decide))).weak, .par h2⟩
def gl (v : Nat) : Nat := if v = 5 then 0 else if v = 4 then 3 else 2
theorem TY.two {v : Nat} {l : List UInt8} {t : Nd} (h : TY (gl v) l t) : TY 2 l t := by
  obtain ⟨p, h1, h2⟩ := h
  unfold gl at h2
  split at h2
  · exact ⟨p, h1, .head h2.up1⟩
  · split at h2
    · exact ⟨p, h1, .head (.app h2)⟩
    · exact ⟨p, h1, h2⟩
theorem TY.zero {v : Nat} {l : List UInt8} {t : Nd} (h : TY (gl v) l t) (hv : v ≤ 5) : TY 0 (atP (v, l) 5) t := by
  unfold atP
  by_cases q : v < 5
  · rw [decide_eq_true (show (v, l).1 < 5 from q)]; exact h.two.par
  · have : v = 5 := by omega
    subst this
    rw [decide_eq_false (show ¬ (5, l).1 < 5 from (by decide : ¬ (5 < 5)))]
    exact h
theorem TY.one {v : Nat} {l : List UInt8} {t : Nd} (h : TY (gl v) l t) (hv : v ≤ 1 ∨ v = 4 ∨ v = 5) : TY 1 (atP (v, l) 2) t := by
  unfold atP
  rcases hv with hv | hv | hv
  · rw [decide_eq_true (show (v, l).1 < 2 by show v < 2; omega)]
    obtain ⟨p, h1, h2⟩ := h.two.par
    exact ⟨p, h1, h2.up1⟩
  · subst hv
    rw [decide_eq_false (show ¬ (4, l).1 < 2 from (by decide : ¬ (4 < 2)))]
    obtain ⟨p, h1, h2⟩ := h
    exact ⟨p, h1, .app h2⟩
  · subst hv
    rw [decide_eq_false (show ¬ (5, l).1 < 2 from (by decide : ¬ (5 < 2)))]
    obtain ⟨p, h1, h2⟩ := h
    exact ⟨p, h1, h2.up1⟩
theorem TY.args {s : ByteArray} : ∀ (L : List Nd) (l : List UInt8) (M : List Nd), TY 3 l (sUp s M) → (∀ x ∈ L, TY 0 (atP (lv x, sh x) 5) (er x)) → TY 3 (l ++ behindP (prL L)) (sUp s (M ++ erL L))
  | [], l, M, h, _ => by simpa [behindP, prL, erL] using h
  | x :: L, l, M, h, hx => by
    obtain ⟨p, h1, h2⟩ := h
    obtain ⟨q, k1, k2⟩ := hx x (by simp)
    have := TY.args L (l ++ (32 :: atP (lv x, sh x) 5)) (M ++ [er x]) ⟨_, h1.post (lx_sp k1) rfl (by decide), .arg h2 k2⟩ (fun y hy => hx y (by simp [hy]))
    simpa [behindP, prL, erL] using this
theorem lv_ty {nd : Nd} (h : Ty3 nd) : lv nd ≤ 1 ∨ lv nd = 4 ∨ lv nd = 5 := by
  cases h with
  | var s n f t a h1 h2 h3 => right; right; simp [lv]
  | up s n L f t a h1 h2 h3 h4 => by_cases hL : L = [] <;> simp [lv, hL]
  | pr x y f t a hx hy => right; right; simp [lv]
  | fn x y f t a hx hy => left; simp [lv]
theorem lv_le (nd : Nd) : lv nd ≤ 5 := by
  obtain ⟨k, s, n, L, f, t, a⟩ := nd
  unfold lv
  repeat' split
  all_goals omega
theorem ty_tx {nd : Nd} (h : Ty3 nd) : TY (gl (lv nd)) (sh nd) (er nd) ∧ NoN (er nd) := by
  induction h with
  | var s n f t a h1 h2 h3 =>
    refine ⟨?_, by simp [er, erL, NoN, NoNL]⟩
    have e : sh (.mk 16 s n [] f t a) = s.toList := by simp [sh, joinE]
    rw [e, show lv (.mk 16 s n [] f t a) = 5 by simp [lv]]
    exact ⟨_, h1.lx, .var s⟩
  | up s n L f t a h1 h2 h3 h4 ih =>
    refine ⟨?_, ?_⟩
    · have e : sh (.mk 2 s n L f t a) = s.toList ++ behindP (prL L) := by simp [sh, joinE]
      rw [e]
      by_cases hL : L = []
      · subst hL
        rw [show lv (.mk 2 s n [] f t a) = 5 by simp [lv]]
        simp only [behindP, prL, List.flatMap_nil, List.append_nil]
        exact ⟨_, h1.lx, .up0 s⟩
      · rw [show lv (.mk 2 s n L f t a) = 4 by simp [lv, hL]]
        have := TY.args L s.toList [] ⟨_, h1.lx, .up s⟩ (fun x hx => (ih x hx).1.zero (lv_le x))
        simpa [er, sUp, gl] using this
    · simp only [er, NoN]
      refine ⟨by decide, by decide, ?_⟩
      have : ∀ M : List Nd, (∀ x ∈ M, NoN (er x)) → NoNL (erL M) := fun M => by
        induction M with
        | nil => intro _; simp [erL, NoNL]
        | cons y M ihM => intro hM; simp only [erL, NoNL]; exact ⟨hM y (by simp), ihM fun z hz => hM z (by simp [hz])⟩
      exact this L fun x hx => (ih x hx).2
  | pr x y f t a hx hy ihx ihy =>
    refine ⟨?_, by simp [er, erL, NoN, NoNL, ihx.2, ihy.2]⟩
    have e : sh (.mk 6 kNo 0 [x, y] f t a) = 40 :: (sh x ++ ([44, 32] ++ (sh y ++ [41]))) := by simp [sh, joinE, prL, gP]
    rw [e, show lv (.mk 6 kNo 0 [x, y] f t a) = 5 by simp [lv]]
    obtain ⟨p, a1, a2⟩ := ihx.1.two
    obtain ⟨q, b1, b2⟩ := ihy.1.two
    exact ⟨_, (lx_open.pre (a1.mid lx_com rfl (by decide) (b1.post lx_close rfl (by decide)))).weak, .pair a2 b2⟩
  | fn x y f t a hx hy ihx ihy =>
    refine ⟨?_, by simp [er, erL, NoN, NoNL, ihx.2, ihy.2]⟩
    have e : sh (.mk 17 kNo 0 [x, y] f t a) = atP (lv x, sh x) 2 ++ ([32, 45, 62, 32] ++ sh y) := by simp [sh, joinE, prL, gP]
    rw [e, show lv (.mk 17 kNo 0 [x, y] f t a) = 1 by simp [lv]]
    obtain ⟨p, a1, a2⟩ := ihx.1.one (lv_ty hx)
    obtain ⟨q, b1, b2⟩ := ihy.1.two
    exact ⟨_, a1.mid lx_arr rfl (by decide) b1, .arrow a2 b2⟩
/-- Bytes that are read as a pattern, at a level. -/
def TQ (v : Nat) (l : List UInt8) (t : Nd) : Prop := ∃ p, Lx true l p ∧ RdQ v p t
theorem TQ.zero {v : Nat} {l : List UInt8} {t : Nd} (h : TQ v l t) (hv : v = 4 ∨ v = 5) : TQ 0 l t := by
  obtain ⟨p, h1, h2⟩ := h
  rcases hv with rfl | rfl
  · exact ⟨p, h1, h2.d40⟩
  · exact ⟨p, h1, h2.d50⟩
theorem TQ.five {v : Nat} {l : List UInt8} {t : Nd} (h : TQ v l t) (hv : v = 4 ∨ v = 5) : TQ 5 (atP (v, l) 5) t := by
  unfold atP
  rcases hv with rfl | rfl
  · rw [decide_eq_true (show (4, l).1 < 5 from (by decide : 4 < 5))]
    obtain ⟨p, h1, h2⟩ := h.zero (by simp)
    exact ⟨_, (lx_open.pre (h1.post lx_close rfl (by decide))).weak, h2.par⟩
  · rw [decide_eq_false (show ¬ (5, l).1 < 5 from (by decide : ¬ (5 < 5)))]; exact h
theorem TQ.args {s : ByteArray} : ∀ (L : List Nd) (l : List UInt8) (M : List Nd), TQ 4 l (tUp s M) → (∀ x ∈ L, TQ 5 (atP (lv x, sh x) 5) (es x)) → TQ 4 (l ++ behindP (prL L)) (tUp s (M ++ esL L))
  | [], l, M, h, _ => by simpa [behindP, prL, esL] using h
  | x :: L, l, M, h, hx => by
    obtain ⟨p, h1, h2⟩ := h
    obtain ⟨q, k1, k2⟩ := hx x (by simp)
    have := TQ.args L (l ++ (32 :: atP (lv x, sh x) 5)) (M ++ [es x]) ⟨_, h1.post (lx_sp k1) rfl (by decide), h2.arg k2⟩ (fun y hy => hx y (by simp [hy]))
    simpa [behindP, prL, esL] using this
theorem lv_pa {nd : Nd} (h : Pa3 nd) : lv nd = 4 ∨ lv nd = 5 := by
  cases h with
  | up s n L f t a h1 h2 h3 h4 => by_cases hL : L = [] <;> simp [lv, hL]
  | _ => right; simp [lv]
theorem ba_self (s : ByteArray) : (⟨s.toList.toArray⟩ : ByteArray) = s := toList_inj (toList_mk _)
theorem leaf_1 (s : ByteArray) : leafT (1, s.toList) = .mk 1 s 0 [] 0 0 0 := by simp [leafT, ba_self]
theorem leaf_2 (s : ByteArray) : leafT (2, s.toList) = .mk 2 s 0 [] 0 0 0 := by simp [leafT, ba_self]
theorem leaf_4 {n : Nat} (h : n < 1000000000) : leafT (4, dec n) = .mk 3 kNo n [] 0 0 0 := by
  have : numB ⟨(dec n).toArray⟩ = n := numB_dec h
  simp [leafT, this]
theorem leaf_w {s : ByteArray} (h : s.toList = kTrue.toList ∨ s.toList = kFalse.toList) : leafT (5, s.toList) = .mk 4 s 0 [] 0 0 0 := by
  have e1 : kTrue.toList = [116, 114, 117, 101] := toList_mk _
  have e2 : kFalse.toList = [102, 97, 108, 115, 101] := toList_mk _
  have e := ba_self s
  rcases h with h | h <;> rw [h] at e ⊢
  · rw [e1] at e ⊢; simp [leafT]; exact e
  · rw [e2] at e ⊢; simp [leafT]; exact e
theorem lx_w {s : ByteArray} (h : s.toList = kTrue.toList ∨ s.toList = kFalse.toList) : Lx true s.toList [(5, s.toList)] ∧ (((5, s.toList) : Ky) = yTrue ∨ ((5, s.toList) : Ky) = yFalse) := by
  have e1 : kTrue.toList = [116, 114, 117, 101] := toList_mk _
  have e2 : kFalse.toList = [102, 97, 108, 115, 101] := toList_mk _
  rcases h with h | h <;> rw [h]
  · rw [e1]; exact ⟨lx_true, Or.inl rfl⟩
  · rw [e2]; exact ⟨lx_false, Or.inr rfl⟩
theorem pa_tx {nd : Nd} (h : Pa3 nd) : TQ (lv nd) (sh nd) (es nd) := by
  induction h with
  | any s f t a h1 =>
    have := RdQ.leaf (x := yAny) (by simp)
    exact ⟨_, lx_any.weak, by simpa [leafT, es, esL, lv] using this⟩
  | low s f t a h1 h2 =>
    have := RdQ.leaf (x := (1, s.toList)) (by simp)
    rw [leaf_1] at this
    have e : sh (.mk 1 s 0 [] f t a) = s.toList := by simp [sh, joinE]
    rw [e]
    exact ⟨_, h1.lx, by simpa [es, esL, lv] using this⟩
  | num s n f t a h1 h2 =>
    have := RdQ.leaf (x := (4, dec n)) (by simp)
    rw [leaf_4 h1] at this
    have e : sh (.mk 3 s n [] f t a) = dec n := by simp [sh, joinE]
    rw [e]
    exact ⟨_, lx_dec h1, by simpa [es, esL, lv] using this⟩
  | word s f t a h1 h2 =>
    obtain ⟨a1, a2⟩ := lx_w h1
    have := RdQ.leaf (x := (5, s.toList)) (by rcases a2 with a2 | a2 <;> simp [a2])
    rw [leaf_w h1] at this
    have e : sh (.mk 4 s 0 [] f t a) = s.toList := by simp [sh, joinE]
    rw [e]
    exact ⟨_, a1, by simpa [es, esL, lv] using this⟩
  | unit f t a =>
    have e : sh (.mk 5 kNo 0 [] f t a) = [40, 41] := by simp [sh, joinE]
    rw [e]
    exact ⟨_, (lx_open.pre lx_close).weak, by simpa [es, esL, lv, tUnit] using RdQ.unit⟩
  | pr x y f t a hx hy ihx ihy =>
    have e : sh (.mk 6 kNo 0 [x, y] f t a) = 40 :: (sh x ++ ([44, 32] ++ (sh y ++ [41]))) := by simp [sh, joinE, prL, gP]
    rw [e]
    obtain ⟨p, a1, a2⟩ := ihx.zero (lv_pa hx)
    obtain ⟨q, b1, b2⟩ := ihy.zero (lv_pa hy)
    exact ⟨_, (lx_open.pre (a1.mid lx_com rfl (by decide) (b1.post lx_close rfl (by decide)))).weak, by simpa [es, esL, lv, tPair] using a2.pair b2⟩
  | up s n L f t a h1 h2 h3 h4 ih =>
    subst h3
    have e : sh (.mk 2 s 0 L f t a) = s.toList ++ behindP (prL L) := by simp [sh, joinE]
    rw [e]
    by_cases hL : L = []
    · subst hL
      have := RdQ.leaf (x := (2, s.toList)) (by simp)
      rw [leaf_2] at this
      simp only [behindP, prL, List.flatMap_nil, List.append_nil]
      exact ⟨_, h1.lx, by simpa [es, esL, lv] using this⟩
    · have h0 := RdQ.up s.toList
      rw [ba_self] at h0
      have := TQ.args L s.toList [] ⟨_, h1.lx, h0⟩ (fun x hx => (ih x hx).five (lv_pa (h4 x hx)))
      simpa [es, lv, hL, tUp] using this
/-- Bytes that are read as an expression, at a level. -/
def TE (v : Nat) (l : List UInt8) (t : Nd) : Prop := ∃ p, Lx true l p ∧ Rds v p t
theorem TE.down {v u : Nat} {l : List UInt8} {t : Nd} (h : TE v l t) (hv : v ≤ 5) (hu : u ≤ v) : TE u l t := by
  obtain ⟨p, h1, h2⟩ := h
  exact ⟨p, h1, h2.down hv u hu⟩
theorem TE.par {l : List UInt8} {t : Nd} (h : TE 0 l t) : TE 5 (40 :: (l ++ [41])) t := by
  obtain ⟨p, h1, h2⟩ := h
  exact ⟨_, (lx_open.pre (h1.post lx_close rfl (by decide))).weak, h2.par⟩
theorem TE.at {v : Nat} {l : List UInt8} {t : Nd} (h : TE v l t) (hv : v ≤ 5) {k : Nat} (hk : k ≤ 5) : TE k (atP (v, l) k) t := by
  unfold atP
  by_cases q : v < k
  · rw [decide_eq_true (show (v, l).1 < k from q)]
    exact (h.down hv (Nat.zero_le _)).par.down (Nat.le_refl _) hk
  · rw [decide_eq_false (show ¬ (v, l).1 < k from q)]
    exact h.down hv (by omega)
theorem TE.pair {l m : List UInt8} {t u : Nd} (h : TE 0 l t) (k : TE 0 m u) : TE 5 (40 :: (l ++ ([44, 32] ++ (m ++ [41])))) (tPair t u) := by
  obtain ⟨p, a1, a2⟩ := h
  obtain ⟨q, b1, b2⟩ := k
  exact ⟨_, (lx_open.pre (a1.mid lx_com rfl (by decide) (b1.post lx_close rfl (by decide)))).weak, a2.pair b2⟩
theorem TE.app {l m : List UInt8} {t u : Nd} (h : TE 4 l t) (k : TE 5 m u) : TE 4 (l ++ (32 :: m)) (tCall t u) := by
  obtain ⟨p, a1, a2⟩ := h
  obtain ⟨q, b1, b2⟩ := k
  exact ⟨_, a1.post (lx_sp b1) rfl (by decide), a2.app b2⟩
theorem TE.ite {l m o : List UInt8} {t u w : Nd} (h : TE 0 l t) (k : TE 0 m u) (j : TE 0 o w) : TE 0 ([105, 102, 32] ++ (l ++ ([32, 116, 104, 101, 110, 32] ++ (m ++ ([32, 101, 108, 115, 101, 32] ++ o))))) (tIf t u w) := by
  obtain ⟨p, a1, a2⟩ := h
  obtain ⟨q, b1, b2⟩ := k
  obtain ⟨r, c1, c2⟩ := j
  exact ⟨_, lx_if.pre (a1.mid lx_then rfl (by decide) (b1.mid lx_else rfl (by decide) c1)), a2.ite b2 c2⟩
/-- Bytes that are read as a function. -/
def TF (l : List UInt8) (t : Nd) : Prop := ∃ p, Lx true l p ∧ RdF p t
theorem TF.mk {s : ByteArray} (hs : NmL s) {l : List UInt8} {t : Nd} (h : TE 0 l t) : TF ([102, 117, 110, 32] ++ (s.toList ++ ([32, 45, 62, 32] ++ l))) (tFn s t) := by
  obtain ⟨q, a1, a2⟩ := h
  exact ⟨_, lx_fun.pre (hs.lx.mid lx_arr rfl (by decide) a1), ⟨q, s.toList, t, rfl, by rw [ba_self], a2⟩⟩
theorem TF.te {l : List UInt8} {t : Nd} (h : TF l t) : TE 0 l t := by
  obtain ⟨p, a1, a2⟩ := h
  exact ⟨p, a1, a2.rds⟩
/-- Bytes that are read as what a let binds. -/
def TB (l : List UInt8) (c : Nat) (s : ByteArray) (t : Nd) : Prop := ∃ p, Lx true l p ∧ RdB p c s.toList t
theorem TB.no {s : ByteArray} (hs : NmL s) {l : List UInt8} {t : Nd} (h : TE 0 l t) : TB (letS false s.toList l) 10 s t := by
  obtain ⟨q, a1, a2⟩ := h
  exact ⟨_, lx_let.pre (hs.lx.mid lx_eq rfl (by decide) a1), ⟨q, Or.inl ⟨rfl, rfl, a2⟩⟩⟩
theorem TB.rc {s : ByteArray} (hs : NmL s) {l : List UInt8} {t : Nd} (h : TF l t) : TB (letS true s.toList l) 11 s t := by
  obtain ⟨q, a1, a2⟩ := h
  exact ⟨_, lx_let.pre (lx_rec.pre (hs.lx.mid lx_eq rfl (by decide) a1)), ⟨q, Or.inr ⟨rfl, rfl, a2⟩⟩⟩
theorem TB.in_ {l m : List UInt8} {c : Nat} {s : ByteArray} {t u : Nd} (h : TB l c s t) (hc : c = 10 ∨ c = 11) (k : TE 0 m u) : TE 0 (l ++ ([32, 105, 110, 32] ++ m)) (tLet c s t u) := by
  obtain ⟨p, a1, a2⟩ := h
  obtain ⟨q, b1, b2⟩ := k
  have := Rds.lt a2 b2 hc
  rw [ba_self] at this
  exact ⟨_, a1.mid lx_in rfl (by decide) b1, this⟩
/-- Bytes that are read as arms. -/
def TA (l : List UInt8) (A : List (Nd × Nd)) : Prop := ∃ p, Lx true l p ∧ RdA p A
theorem TA.one {l m : List UInt8} {t u : Nd} (h : TQ 0 l t) (k : TE 0 m u) : TA (l ++ ([32, 45, 62, 32] ++ m)) [(t, u)] := by
  obtain ⟨p, a1, a2⟩ := h
  obtain ⟨q, b1, b2⟩ := k
  exact ⟨_, a1.mid lx_arr rfl (by decide) b1, .one a2 b2⟩
theorem TA.cons {l m o : List UInt8} {t u : Nd} {A : List (Nd × Nd)} (h : TQ 0 l t) (k : TE 0 m u) (j : TA o A) : TA (l ++ ([32, 45, 62, 32] ++ (m ++ ([32, 124, 32] ++ o)))) ((t, u) :: A) := by
  obtain ⟨p, a1, a2⟩ := h
  obtain ⟨q, b1, b2⟩ := k
  obtain ⟨r, c1, c2⟩ := j
  exact ⟨_, a1.mid lx_arr rfl (by decide) (b1.mid lx_bar rfl (by decide) c1), .cons a2 b2 c2⟩
theorem TE.mt {l m : List UInt8} {t : Nd} {A : List (Nd × Nd)} (h : TE 0 l t) (k : TA m A) : TE 0 ([109, 97, 116, 99, 104, 32] ++ (l ++ ([32, 119, 105, 116, 104, 32] ++ (m ++ [32, 101, 110, 100])))) (tMt t A) := by
  obtain ⟨p, a1, a2⟩ := h
  obtain ⟨q, b1, b2⟩ := k
  exact ⟨_, lx_match.pre (a1.mid lx_with rfl (by decide) (b1.post lx_end rfl (by decide))), a2.mt b2⟩
theorem arms_tx : ∀ (A : List (Nd × Nd)), A ≠ [] → (∀ p ∈ A, Pa3 p.1) → (∀ p ∈ A, TE 0 (sh p.2) (es p.2)) → TA (armsP true (prL (armN A))) (esA A)
  | [], h, _, _ => absurd rfl h
  | [p], _, h1, h2 => by
    have a := TA.one ((pa_tx (h1 p (by simp))).zero (lv_pa (h1 p (by simp)))) (h2 p (by simp))
    rw [prL_arm]
    simpa [armN, prL, armsP, esA] using a
  | p :: q :: A, _, h1, h2 => by
    have ih := arms_tx (q :: A) (by simp) (fun x hx => h1 x (by simp [hx])) (fun x hx => h2 x (by simp [hx]))
    have a := TA.cons ((pa_tx (h1 p (by simp))).zero (lv_pa (h1 p (by simp)))) (h2 p (by simp)) ih
    rw [prL_arm] at a ⊢
    show TA ((if true = true then [] else [32, 124, 32]) ++ (sh p.1 ++ ([32, 45, 62, 32] ++ (sh p.2 ++ armsP false (prL (armN (q :: A))))))) _
    rw [prL_arm]
    simpa [esA] using a
theorem ex_tx {nd : Nd} (h : Ex3 nd) : TE (lv nd) (sh nd) (es nd) ∧ (Fn3 nd → TF (sh nd) (es nd)) := by
  have nofn : ∀ {k s n L f t a}, k ≠ 9 → ¬ Fn3 (.mk k s n L f t a) := by
    rintro k s n L f t a hk ⟨_, _, _, _, _, e, _⟩
    injection e with e1
    exact hk e1
  induction h with
  | low s f t a h1 h2 =>
    refine ⟨?_, fun q => absurd q (nofn (by decide))⟩
    have := Rds.leaf (x := (1, s.toList)) (by simp)
    rw [leaf_1] at this
    have e : sh (.mk 1 s 0 [] f t a) = s.toList := by simp [sh, joinE]
    rw [e]
    exact ⟨_, h1.lx, by simpa [es, esL, lv] using this⟩
  | up s f t a h1 h2 =>
    refine ⟨?_, fun q => absurd q (nofn (by decide))⟩
    have := Rds.leaf (x := (2, s.toList)) (by simp)
    rw [leaf_2] at this
    have e : sh (.mk 2 s 0 [] f t a) = s.toList := by simp [sh, joinE, prL, behindP]
    rw [e]
    exact ⟨_, h1.lx, by simpa [es, esL, lv] using this⟩
  | num s n f t a h1 h2 =>
    refine ⟨?_, fun q => absurd q (nofn (by decide))⟩
    have := Rds.leaf (x := (4, dec n)) (by simp)
    rw [leaf_4 h1] at this
    have e : sh (.mk 3 s n [] f t a) = dec n := by simp [sh, joinE]
    rw [e]
    exact ⟨_, lx_dec h1, by simpa [es, esL, lv] using this⟩
  | word s f t a h1 h2 =>
    refine ⟨?_, fun q => absurd q (nofn (by decide))⟩
    obtain ⟨a1, a2⟩ := lx_w h1
    have := Rds.leaf (x := (5, s.toList)) (by rcases a2 with a2 | a2 <;> simp [a2])
    rw [leaf_w h1] at this
    have e : sh (.mk 4 s 0 [] f t a) = s.toList := by simp [sh, joinE]
    rw [e]
    exact ⟨_, a1, by simpa [es, esL, lv] using this⟩
  | unit f t a =>
    refine ⟨?_, fun q => absurd q (nofn (by decide))⟩
    have e : sh (.mk 5 kNo 0 [] f t a) = [40, 41] := by simp [sh, joinE]
    rw [e]
    exact ⟨_, (lx_open.pre lx_close).weak, by simpa [es, esL, lv, tUnit] using Rds.unit⟩
  | pr x y f t a hx hy ihx ihy =>
    refine ⟨?_, fun q => absurd q (nofn (by decide))⟩
    have e : sh (.mk 6 kNo 0 [x, y] f t a) = 40 :: (sh x ++ ([44, 32] ++ (sh y ++ [41]))) := by simp [sh, joinE, prL, gP]
    rw [e]
    have := (ihx.1.down (lv_le x) (Nat.zero_le _)).pair (ihy.1.down (lv_le y) (Nat.zero_le _))
    simpa [es, esL, lv, tPair] using this
  | of x y f t a hx hy ihx =>
    refine ⟨?_, fun q => absurd q (nofn (by decide))⟩
    have e : sh (.mk 14 kNo 0 [x, y] f t a) = 40 :: (sh x ++ ([32, 58, 32] ++ (sh y ++ [41]))) := by simp [sh, joinE, prL, gP]
    rw [e]
    obtain ⟨p, a1, a2⟩ := ihx.1.down (lv_le x) (Nat.zero_le _)
    obtain ⟨g1, g2⟩ := ty_tx hy
    obtain ⟨q, b1, b2⟩ := g1.two
    have e3 := es_er y g2
    refine ⟨_, (lx_open.pre (a1.mid lx_col rfl (by decide) (b1.post lx_close rfl (by decide)))).weak, ?_⟩
    have := a2.of b2 g2
    simpa [es, esL, lv, tOf, e3] using this
  | op s x y f t a hs hx hy ihx ihy =>
    refine ⟨?_, fun q => absurd q (nofn (by decide))⟩
    rcases hs with rfl | rfl | rfl | rfl
    · have hl : lv (.mk 7 kPlus 0 [x, y] f t a) = 2 := by simp [lv, toList_mk, ByteArray.toList_eq]
      have e : sh (.mk 7 kPlus 0 [x, y] f t a) = atP (lv x, sh x) 2 ++ ([32, 43, 32] ++ atP (lv y, sh y) 3) := by simp only [sh, hl]; simp [joinE, prL, gP, ByteArray.toList_eq]
      rw [e, hl]
      obtain ⟨p, a1, a2⟩ := ihx.1.at (lv_le x) (k := 2) (by decide)
      obtain ⟨q, b1, b2⟩ := ihy.1.at (lv_le y) (k := 3) (by decide)
      exact ⟨_, a1.mid lx_plus rfl (by decide) b1, by have := a2.add (l := [43]) (by simp) b2; simpa [es, esL, tOp] using this⟩
    · have hl : lv (.mk 7 kMinus 0 [x, y] f t a) = 2 := by simp [lv, toList_mk, ByteArray.toList_eq]
      have e : sh (.mk 7 kMinus 0 [x, y] f t a) = atP (lv x, sh x) 2 ++ ([32, 45, 32] ++ atP (lv y, sh y) 3) := by simp only [sh, hl]; simp [joinE, prL, gP, ByteArray.toList_eq]
      rw [e, hl]
      obtain ⟨p, a1, a2⟩ := ihx.1.at (lv_le x) (k := 2) (by decide)
      obtain ⟨q, b1, b2⟩ := ihy.1.at (lv_le y) (k := 3) (by decide)
      exact ⟨_, a1.mid lx_min rfl (by decide) b1, by have := a2.add (l := [45]) (by simp) b2; simpa [es, esL, tOp] using this⟩
    · have hl : lv (.mk 7 kStar 0 [x, y] f t a) = 3 := by simp [lv, toList_mk, ByteArray.toList_eq]
      have e : sh (.mk 7 kStar 0 [x, y] f t a) = atP (lv x, sh x) 3 ++ ([32, 42, 32] ++ atP (lv y, sh y) 4) := by simp only [sh, hl]; simp [joinE, prL, gP, ByteArray.toList_eq]
      rw [e, hl]
      obtain ⟨p, a1, a2⟩ := ihx.1.at (lv_le x) (k := 3) (by decide)
      obtain ⟨q, b1, b2⟩ := ihy.1.at (lv_le y) (k := 4) (by decide)
      exact ⟨_, a1.mid lx_star rfl (by decide) b1, by have := a2.mul b2; simpa [es, esL, tOp] using this⟩
    · have hl : lv (.mk 7 kLess 0 [x, y] f t a) = 1 := by simp [lv, toList_mk, ByteArray.toList_eq]
      have e : sh (.mk 7 kLess 0 [x, y] f t a) = atP (lv x, sh x) 2 ++ ([32, 60, 32] ++ atP (lv y, sh y) 2) := by simp only [sh, hl]; simp [joinE, prL, gP, ByteArray.toList_eq]
      rw [e, hl]
      obtain ⟨p, a1, a2⟩ := ihx.1.at (lv_le x) (k := 2) (by decide)
      obtain ⟨q, b1, b2⟩ := ihy.1.at (lv_le y) (k := 2) (by decide)
      exact ⟨_, a1.mid lx_less rfl (by decide) b1, by have := a2.less b2; simpa [es, esL, tOp] using this⟩
  | call x y f t a hx hy ihx ihy =>
    refine ⟨?_, fun q => absurd q (nofn (by decide))⟩
    have e : sh (.mk 8 kNo 0 [x, y] f t a) = atP (lv x, sh x) 4 ++ (32 :: atP (lv y, sh y) 5) := by simp [sh, joinE, prL, gP]
    rw [e]
    have := (ihx.1.at (lv_le x) (k := 4) (by decide)).app (ihy.1.at (lv_le y) (k := 5) (by decide))
    simpa [es, esL, lv, tCall] using this
  | fn s x f t a h1 h2 hx ihx =>
    have e : sh (.mk 9 s 0 [x] f t a) = [102, 117, 110, 32] ++ (s.toList ++ ([32, 45, 62, 32] ++ sh x)) := sh_fn s 0 x f t a
    have := TF.mk h1 (ihx.1.down (lv_le x) (Nat.zero_le _))
    rw [e]
    have e2 : es (.mk 9 s 0 [x] f t a) = tFn s (es x) := by simp [es, esL, tFn]
    rw [e2]
    exact ⟨by simpa [lv] using this.te, fun _ => this⟩
  | lt s x z f t a h1 h2 hx hz ihx ihz =>
    refine ⟨?_, fun q => absurd q (nofn (by decide))⟩
    rw [sh_let 10 (by simp)]
    have := (TB.no h1 (ihx.1.down (lv_le x) (Nat.zero_le _))).in_ (by simp) (ihz.1.down (lv_le z) (Nat.zero_le _))
    simpa [es, esL, lv, tLet] using this
  | ltr s s' x z f t a f' t' a' h1 h2 h3 h4 hx hz ihx ihz =>
    refine ⟨?_, fun q => absurd q (nofn (by decide))⟩
    rw [sh_let 11 (by simp), sh_fn]
    have := (TB.rc h1 (TF.mk h3 (ihx.1.down (lv_le x) (Nat.zero_le _)))).in_ (by simp) (ihz.1.down (lv_le z) (Nat.zero_le _))
    simpa [es, esL, lv, tLet, tFn] using this
  | ite x y z f t a hx hy hz ihx ihy ihz =>
    refine ⟨?_, fun q => absurd q (nofn (by decide))⟩
    rw [sh_if]
    have := (ihx.1.down (lv_le x) (Nat.zero_le _)).ite (ihy.1.down (lv_le y) (Nat.zero_le _)) (ihz.1.down (lv_le z) (Nat.zero_le _))
    simpa [es, esL, lv, tIf] using this
  | mt x A f t a h0 hx hp he ihx ihe =>
    refine ⟨?_, fun q => absurd q (nofn (by decide))⟩
    have e : sh (.mk 13 kNo 0 (x :: armN A) f t a) = [109, 97, 116, 99, 104, 32] ++ (sh x ++ ([32, 119, 105, 116, 104, 32] ++ (armsP true (prL (armN A)) ++ [32, 101, 110, 100]))) := by simp [sh, joinE, prL, gP]
    rw [e]
    have := (ihx.1.down (lv_le x) (Nat.zero_le _)).mt (arms_tx A h0 hp (fun p q => (ihe p q).1.down (lv_le _) (Nat.zero_le _)))
    simpa [es, esL, lv, tMt, esL_arm] using this
/-- Bytes that are read as a declaration that is shown so. -/
def TD (l S : List UInt8) : Prop := ∃ p, Lx false l p ∧ RdD p S
theorem TB.decl {l : List UInt8} {c : Nat} {s : ByteArray} {t : Nd} (h : TB l c s t) : TD (l ++ [59]) (letS (c == 11) s.toList (sh t)) := by
  obtain ⟨p, a1, a2⟩ := h
  exact ⟨_, a1.post lx_semi rfl (by decide), RdD.lt a2⟩
theorem mks_tx : ∀ (ms : List Nd), ms ≠ [] → (∀ m ∈ ms, Up3 Ty3 m) → ∃ p, Lx true (match ms with | [] => [] | m :: r => sh m ++ mksW false r) p ∧ RdK p (ms.map er)
  | [], h, _ => absurd rfl h
  | [m], _, h => by
    obtain ⟨s, L, f, t, a, rfl, h1, h2, h3⟩ := h m (by simp)
    have e : sh (.mk 2 s 0 L f t a) = s.toList ++ behindP (prL L) := by simp [sh, joinE]
    obtain ⟨p, a1, a2⟩ := TY.args L s.toList [] ⟨_, h1.lx, .up s⟩ (fun x hx => (ty_tx (h3 x hx)).1.zero (lv_le x))
    have hn := (ty_tx (Ty3.up s 0 L f t a h1 h2 rfl h3)).2
    refine ⟨p, by simpa [mksW, e] using a1, ?_⟩
    exact .one (by simpa [er, sUp] using a2) hn
  | m :: n :: ms, _, h => by
    obtain ⟨q, c1, c2⟩ := mks_tx (n :: ms) (by simp) (fun x hx => h x (by simp [hx]))
    obtain ⟨s, L, f, t, a, rfl, h1, h2, h3⟩ := h m (by simp)
    have e : sh (.mk 2 s 0 L f t a) = s.toList ++ behindP (prL L) := by simp [sh, joinE]
    obtain ⟨p, a1, a2⟩ := TY.args L s.toList [] ⟨_, h1.lx, .up s⟩ (fun x hx => (ty_tx (h3 x hx)).1.zero (lv_le x))
    have hn := (ty_tx (Ty3.up s 0 L f t a h1 h2 rfl h3)).2
    refine ⟨_, ?_, .cons (by simpa [er, sUp] using a2) hn c2⟩
    have := a1.mid lx_bar rfl (by decide) c1
    simpa [mksW, e] using this
theorem vs_tx : ∀ (vs : List Pu.Tok) (l : List UInt8) (p : List Ky), (∀ v ∈ vs, NmV v.text) → Lx true l p → Lx true (l ++ vsW vs) (p ++ (vs.map fun v => v.text.toList).map fun v => ((3, v) : Ky))
  | [], l, p, _, h => by simpa [vsW] using h
  | v :: vs, l, p, hv, h => by
    have := vs_tx vs (l ++ ([32] ++ v.text.toList)) (p ++ [(3, v.text.toList)]) (fun x hx => hv x (by simp [hx])) (h.post (lx_sp (hv v (by simp)).lx) rfl (by decide))
    simpa [vsW] using this
theorem mksW_er (ms : List Nd) (b : Bool) (h : ∀ m ∈ ms, NoN (er m)) : mksW b (ms.map er) = mksW b ms := by
  rw [← mksW_es ms]
  congr 1
  apply List.map_congr_left
  intro m hm
  rw [es_er m (h m hm)]
theorem D3.td {d : Dc} (h : D3 d) : TD (dcS d ++ [59]) (dcS d) := by
  cases d with
  | lt r t b =>
    obtain ⟨h1, h2, h3, h4⟩ := h
    obtain ⟨g1, g2⟩ := ex_tx h3
    cases r with
    | true =>
      have := (TB.rc h1 (g2 (h4 rfl))).decl
      rw [sh_es] at this
      exact this
    | false =>
      have := (TB.no h1 (g1.down (lv_le b) (Nat.zero_le _))).decl
      rw [sh_es] at this
      exact this
  | ty t vs ms =>
    obtain ⟨h1, h2, h3, h4, h5⟩ := h
    obtain ⟨q, c1, c2⟩ := mks_tx ms h4 h5
    have hd := RdD.ty t.text.toList (vs.map fun v => v.text.toList) c2
    have hno : ∀ m ∈ ms, NoN (er m) := fun m hm => (ty_tx (h5 m hm).ty).2
    rw [mksW_er ms true hno] at hd
    have e1 : dcS (.ty t vs ms) = [116, 121, 112, 101] ++ (([32] ++ t.text.toList) ++ (((vs.map fun v => v.text.toList).flatMap fun v => [32] ++ v) ++ mksW true ms)) := by simp only [dcS, vsW_text]
    rw [← e1] at hd
    refine ⟨_, ?_, hd⟩
    have a1 := vs_tx vs _ _ (fun v hv => (h3 v hv).1) (lx_type.pre h1.lx)
    have a2 := a1.mid lx_eq rfl (by decide) (c1.post lx_semi rfl (by decide))
    cases ms with
    | nil => exact absurd rfl h4
    | cons m ms => simpa [dcS, mksW] using a2
/-- What is shown is read again, and shown as it is. -/
theorem pr_tx : ∀ l : List Dc, (∀ d ∈ l, D3 d) → ∃ p, Lx false (prS l) p ∧ RdP p (prS l)
  | [], _ => ⟨[], fun s i _ _ _ => ⟨[], by simp [prS], rfl⟩, .nil⟩
  | d :: l, h => by
    obtain ⟨p, a1, a2⟩ := (h d (by simp)).td
    obtain ⟨q, b1, b2⟩ := pr_tx l (fun x hx => h x (by simp [hx]))
    refine ⟨p ++ q, ?_, ?_⟩
    · have := a1.pre (lx_nl.pre b1)
      simpa [prS, dcE] using this
    · have := RdP.cons a2 b2
      simpa [prS, dcE] using this
theorem reshow {s : ByteArray} {l : List Dc} (h : readP s = .ok l) (hz : (prS l).length ≤ 400) : ∃ B, readP (bs (prS l)) = .ok B ∧ prS B = prS l := by
  obtain ⟨p, a1, a2⟩ := pr_tx l (readP_good h).2
  exact readP_of a1.weak a2 hz
end Go.Proofs.YteneoapickhpdaaGreatDoor
namespace Go.Proofs.YteneoapickhpdaaGreatDoor
open Go Go.RowKit Go.ChangeMaps Un
/-! Programs that are made out of raw numbers: they are read, and shown no longer than they are. -/
/-- A made expression. -/
def ME (l : List UInt8) : Prop := ∃ t, TE 5 l t ∧ (atP (lv t, sh t) 5).length ≤ l.length
theorem atP_le5 (t : Nd) (k : Nat) (hk : k ≤ 5) : (sh t).length ≤ (atP (lv t, sh t) k).length ∧ (atP (lv t, sh t) k).length ≤ (atP (lv t, sh t) 5).length := by
  unfold atP
  by_cases h : lv t < k
  · have h5 : lv t < 5 := by omega
    simp [h, h5, par_t]
    omega
  · by_cases h5 : lv t < 5
    · simp [h, h5, par_t, par_f]
      omega
    · simp [h, h5, par_f]
theorem me_sh {l : List UInt8} {t : Nd} (h : (atP (lv t, sh t) 5).length ≤ l.length) : (sh t).length ≤ l.length := Nat.le_trans (atP_le5 t 5 (by omega)).1 h
theorem up_len (t : Nd) (h : lv t = 0 ∨ lv t = 4) : (atP (lv t, sh t) 5).length = (sh t).length + 2 := by
  unfold atP
  rw [show decide ((lv t, sh t).1 < 5) = true by simp; omega]
  simp [par_t]
/-- One letter. -/
def one1 (c : UInt8) : ByteArray := ⟨#[c]⟩
theorem one1_l (c : UInt8) : (one1 c).toList = [c] := by unfold one1; exact toList_mk _
theorem nm1 (c : UInt8) (h : Pu.lowB c.toNat = true) (hw : Pu.wordB ⟨#[c]⟩ = false) : NmL (one1 c) := ⟨c, [], one1_l c, h, by simp, hw⟩
theorem leaf_len (x : Ky) (h : x.1 = 1 ∨ x.1 = 2 ∨ x = yTrue) : (atP (lv (leafT x), sh (leafT x)) 5) = x.2 := by
  obtain ⟨a, b⟩ := x
  rcases h with h | h | h
  · simp only at h; subst h
    simp [leafT, lv, sh, joinE, atP, par_f, toList_mk]
  · simp only at h; subst h
    simp [leafT, lv, sh, joinE, atP, par_f, toList_mk, prL, behindP]
  · simp only [Prod.mk.injEq] at h
    obtain ⟨rfl, rfl⟩ := h
    simp [leafT, lv, sh, joinE, atP, par_f, toList_mk]
theorem ME.low {c : UInt8} (h : NmL (one1 c)) : ME [c] := by
  refine ⟨leafT (1, [c]), ⟨[(1, [c])], by have := h.lx; rw [one1_l] at this; exact this, Rds.leaf (by simp)⟩, ?_⟩
  rw [leaf_len _ (by simp)]
  exact Nat.le_refl _
theorem ME.up {c : UInt8} (h : Pu.upB c.toNat = true) : ME [c] := by
  have hn : NmU (one1 c) := ⟨c, [], one1_l c, h, by simp⟩
  refine ⟨leafT (2, [c]), ⟨[(2, [c])], by have := hn.lx; rw [one1_l] at this; exact this, Rds.leaf (by simp)⟩, ?_⟩
  rw [leaf_len _ (by simp)]
  exact Nat.le_refl _
theorem ME.tr : ME [116, 114, 117, 101] := by
  refine ⟨leafT yTrue, ⟨[yTrue], lx_true, Rds.leaf (by simp)⟩, ?_⟩
  rw [leaf_len _ (by simp)]
  exact Nat.le_refl _
theorem dec_one : dec 1 = [49] := by unfold dec; rw [if_pos (by decide)]; rfl
theorem one_te : TE 5 [49] (.mk 3 kNo 1 [] 0 0 0) := by
  have h := lx_dec (n := 1) (by decide)
  have e := leaf_4 (n := 1) (by decide)
  rw [dec_one] at h e
  rw [← e]
  exact ⟨_, h, Rds.leaf (by simp)⟩
theorem one_sh : sh (.mk 3 kNo 1 [] 0 0 0) = [49] := by simp [sh, joinE, dec_one]
theorem ME.one : ME [49] := by
  refine ⟨_, one_te, ?_⟩
  rw [one_sh]
  simp [atP, lv, par_f]
theorem ME.unit : ME [40, 41] := by
  refine ⟨tUnit, ⟨[yOpen, yClose], (lx_open.pre lx_close).weak, Rds.unit⟩, ?_⟩
  simp [tUnit, atP, lv, par_f, sh, joinE]
theorem ME.fn {c : UInt8} {l : List UInt8} (hc : NmL (one1 c)) (h : ME l) : ME ([40, 102, 117, 110, 32] ++ [c] ++ [32, 45, 62, 32] ++ l ++ [41]) := by
  obtain ⟨t, h1, h2⟩ := h
  refine ⟨tFn (one1 c) t, ?_, ?_⟩
  · have := (TF.mk hc (h1.down (by omega) (Nat.zero_le _))).te.par
    rw [one1_l] at this
    simpa using this
  · rw [up_len _ (by simp [tFn, lv])]
    have h3 := me_sh h2
    simp [tFn, sh, joinE, prL, gP, one1_l]
    omega
theorem ME.app {l m : List UInt8} (h : ME l) (k : ME m) : ME ([40] ++ l ++ [32] ++ m ++ [41]) := by
  obtain ⟨t, h1, h2⟩ := h
  obtain ⟨u, k1, k2⟩ := k
  refine ⟨tCall t u, ?_, ?_⟩
  · have := ((h1.down (by omega) (by omega : 4 ≤ 5)).app k1).down (by omega) (Nat.zero_le _) |>.par
    simpa using this
  · rw [up_len _ (by simp [tCall, lv])]
    have h3 := (atP_le5 t 4 (by omega)).2
    simp [tCall, sh, joinE, prL, gP]
    omega
theorem ME.lt {c : UInt8} {l m : List UInt8} (hc : NmL (one1 c)) (h : ME l) (k : ME m) : ME ([40, 108, 101, 116, 32] ++ [c] ++ [32, 61, 32] ++ l ++ [32, 105, 110, 32] ++ m ++ [41]) := by
  obtain ⟨t, h1, h2⟩ := h
  obtain ⟨u, k1, k2⟩ := k
  refine ⟨tLet 10 (one1 c) t u, ?_, ?_⟩
  · have := ((TB.no hc (h1.down (by omega) (Nat.zero_le _))).in_ (by simp) (k1.down (by omega) (Nat.zero_le _))).par
    simpa [letS, one1_l] using this
  · rw [up_len _ (by simp [tLet, lv])]
    have h3 := me_sh h2
    have h4 := me_sh k2
    simp [tLet, sh, joinE, prL, gP, one1_l]
    omega
theorem ME.pair {l m : List UInt8} (h : ME l) (k : ME m) : ME ([40] ++ l ++ [44, 32] ++ m ++ [41]) := by
  obtain ⟨t, h1, h2⟩ := h
  obtain ⟨u, k1, k2⟩ := k
  refine ⟨tPair t u, ?_, ?_⟩
  · have := (h1.down (by omega) (Nat.zero_le _)).pair (k1.down (by omega) (Nat.zero_le _))
    simpa using this
  · have h3 := me_sh h2
    have h4 := me_sh k2
    have e : lv (tPair t u) = 5 := by simp [tPair, lv]
    rw [e]
    simp [atP, par_f, tPair, sh, joinE, prL, gP]
    omega
theorem sh_tCall (t u : Nd) : sh (tCall t u) = atP (lv t, sh t) 4 ++ (32 :: atP (lv u, sh u) 5) := by simp [tCall, sh, joinE, prL, gP]
theorem up_c : TE 5 [67] (leafT (2, [67])) := by
  have hn : NmU (one1 67) := ⟨67, [], one1_l 67, by decide, by simp⟩
  exact ⟨[(2, [67])], by have := hn.lx; rw [one1_l] at this; exact this, Rds.leaf (by simp)⟩
theorem ME.con {l m : List UInt8} (h : ME l) (k : ME m) : ME ([40, 67, 32] ++ l ++ [32] ++ m ++ [41]) := by
  obtain ⟨t, h1, h2⟩ := h
  obtain ⟨u, k1, k2⟩ := k
  refine ⟨tCall (tCall (leafT (2, [67])) t) u, ?_, ?_⟩
  · have := (((up_c.down (by omega) (by omega : 4 ≤ 5)).app h1).app k1).down (by omega) (Nat.zero_le _) |>.par
    simpa using this
  · rw [up_len _ (by simp [tCall, lv])]
    have e : sh (tCall (tCall (leafT (2, [67])) t) u) = [67] ++ (32 :: atP (lv t, sh t) 5) ++ (32 :: atP (lv u, sh u) 5) := by
      rw [sh_tCall, sh_tCall, show lv (tCall (leafT (2, [67])) t) = 4 by simp [tCall, lv]]
      have e1 : atP (lv (leafT (2, [67])), sh (leafT (2, [67]))) 4 = [67] := by simp [leafT, lv, sh, joinE, prL, behindP, atP, par_f, toList_mk]
      rw [e1]
      simp [atP, par_f]
    rw [e]
    simp
    omega
theorem ME.ite {l m : List UInt8} (h : ME l) (k : ME m) : ME ([40, 105, 102, 32, 116, 114, 117, 101, 32, 116, 104, 101, 110, 32] ++ l ++ [32, 101, 108, 115, 101, 32] ++ m ++ [41]) := by
  obtain ⟨t, h1, h2⟩ := h
  obtain ⟨u, k1, k2⟩ := k
  have tr : TE 5 [116, 114, 117, 101] (leafT yTrue) := ⟨[yTrue], lx_true, Rds.leaf (by simp)⟩
  refine ⟨tIf (leafT yTrue) t u, ?_, ?_⟩
  · have := ((tr.down (by omega) (Nat.zero_le _)).ite (h1.down (by omega) (Nat.zero_le _)) (k1.down (by omega) (Nat.zero_le _))).par
    simpa using this
  · rw [up_len _ (by simp [tIf, lv])]
    have h3 := me_sh h2
    have h4 := me_sh k2
    have e : sh (leafT yTrue) = [116, 114, 117, 101] := by simp [leafT, sh, joinE, toList_mk]
    have e2 : sh (tIf (leafT yTrue) t u) = [105, 102, 32] ++ (sh (leafT yTrue) ++ ([32, 116, 104, 101, 110, 32] ++ (sh t ++ ([32, 101, 108, 115, 101, 32] ++ sh u)))) := by simp [tIf, sh, joinE, prL, gP]
    rw [e2, e]
    simp
    omega
theorem ME.mt {c : UInt8} {l m : List UInt8} (hc : NmL (one1 c)) (h : ME l) (k : ME m) : ME ([40, 109, 97, 116, 99, 104, 32] ++ l ++ [32, 119, 105, 116, 104, 32, 78, 32, 45, 62, 32, 49, 32, 124, 32, 67, 32] ++ [c] ++ [32, 95, 32, 45, 62, 32] ++ m ++ [32, 101, 110, 100, 41]) := by
  obtain ⟨t, h1, h2⟩ := h
  obtain ⟨u, k1, k2⟩ := k
  have hN : NmU (one1 78) := ⟨78, [], one1_l 78, by decide, by simp⟩
  have hC : NmU (one1 67) := ⟨67, [], one1_l 67, by decide, by simp⟩
  have q1 : TQ 4 [78] (tUp (one1 78) []) := by
    have := hN.lx; rw [one1_l] at this
    exact ⟨_, this, RdQ.up [78]⟩
  have q2 : TQ 4 ([67, 32] ++ [c] ++ [32, 95]) (tUp (one1 67) [leafT (1, [c]), leafT yAny]) := by
    have a := hC.lx; rw [one1_l] at a
    have b := hc.lx; rw [one1_l] at b
    have a2 := (a.post (lx_sp b) rfl (by decide)).post (lx_sp lx_any) rfl (by decide)
    have r := ((RdQ.up [67]).arg (RdQ.leaf (x := (1, [c])) (by simp))).arg (RdQ.leaf (x := yAny) (by simp))
    exact ⟨_, by simpa using a2.weak, by simpa [one1] using r⟩
  have w1 := TA.cons (q1.zero (by simp)) (one_te.down (by omega) (Nat.zero_le _)) (TA.one (q2.zero (by simp)) (k1.down (by omega) (Nat.zero_le _)))
  have w2 := ((h1.down (by omega) (Nat.zero_le _)).mt w1).par
  refine ⟨_, by simpa using w2, ?_⟩
  rw [up_len _ (by simp [tMt, lv])]
  have h3 := me_sh h2
  have h4 := me_sh k2
  have e1 : sh (tUp (one1 78) []) = [78] := by simp [tUp, sh, joinE, prL, behindP, one1_l]
  have e3 : sh (tUp (one1 67) [leafT (1, [c]), leafT yAny]) = [67, 32, c, 32, 95] := by simp [tUp, sh, joinE, prL, behindP, one1_l, leafT, lv, atP, par_f, toList_mk]
  have e2 : ∀ X, sh (tMt t X) = [109, 97, 116, 99, 104, 32] ++ (sh t ++ ([32, 119, 105, 116, 104, 32] ++ (armsP true (prL (armN X)) ++ [32, 101, 110, 100]))) := fun X => by simp [tMt, sh, joinE, prL, gP]
  rw [e2]
  simp only [armN, prL, armsP, e1, e3, one_sh, List.flatMap_cons, List.flatMap_nil]
  simp
  omega
/-- So deep: so long. -/
def mB : Nat → Nat
  | 0 => 4
  | d + 1 => 2 * mB d + 40
def MEd (d : Nat) (l : List UInt8) : Prop := ME l ∧ l.length ≤ mB d
theorem mB_4 : ∀ d, 4 ≤ mB d
  | 0 => Nat.le_refl _
  | d + 1 => by have := mB_4 d; simp only [mB]; omega
/-- Declarations: bytes that are read as what is shown so. -/
def TP (l S : List UInt8) : Prop := ∃ p, Lx false l p ∧ RdP p S
theorem RdP.snoc {p q : List Ky} {S R : List UInt8} (h : RdP p S) (k : RdD q R) : RdP (p ++ q) (S ++ (R ++ [59, 10])) := by
  induction h with
  | nil => simpa using RdP.cons k .nil
  | cons a b ih => simpa using RdP.cons a ih
theorem TP.snoc {l m S R : List UInt8} (h : TP l S) (k : TD m R) : TP (l ++ m) (S ++ (R ++ [59, 10])) := by
  obtain ⟨p, a1, a2⟩ := h
  obtain ⟨q, b1, b2⟩ := k
  exact ⟨_, a1.pre b1, a2.snoc b2⟩
theorem lx_eq1 : Lx false [61] [yEq] := lx_sgn 61 (by decide) (by decide) (by decide) (by decide) (by decide) (by decide) (by decide)
theorem ME.td {c : UInt8} {l : List UInt8} (hc : NmL (one1 c)) (h : ME l) : ∃ R, TD ([108, 101, 116, 32] ++ [c] ++ [61] ++ l ++ [59]) R ∧ R.length ≤ l.length + 8 := by
  obtain ⟨t, ⟨q, h0, h1⟩, h2⟩ := h
  have h3 := me_sh h2
  have b := hc.lx
  rw [one1_l] at b
  have a := (lx_let.pre (b.mid lx_eq1 rfl (by decide) h0))
  have hb : TB ([108, 101, 116, 32] ++ ([c] ++ ([61] ++ l))) 10 (one1 c) t := ⟨_, a, q, .inl ⟨rfl, by rw [one1_l]; rfl, Rds.down h1 (by omega) 0 (by omega)⟩⟩
  have := hb.decl
  refine ⟨_, by simpa using this, ?_⟩
  simp [letS, one1_l]
  omega
/-- What every made program begins with. -/
def prel : List UInt8 := [116, 121, 112, 101, 32, 76, 32, 39, 97, 32, 61, 32, 78, 32, 124, 32, 67, 32, 39, 97, 32, 40, 76, 32, 39, 97, 41, 59, 116, 121, 112, 101, 32, 83, 32, 61, 32, 80, 32, 124, 32, 81, 32, 73, 110, 116, 32, 66, 111, 111, 108, 59]
def tkO (l : List UInt8) : Pu.Tok := ⟨0, ⟨l.toArray⟩, 0, 0⟩
theorem up1 (c : UInt8) (h : Pu.upB c.toNat = true) : NmU ⟨[c].toArray⟩ := ⟨c, [], toList_mk _, h, by simp⟩
def vA : ByteArray := ⟨[39, 97].toArray⟩
theorem vA_v : NmV vA := ⟨97, [], toList_mk _, by decide, by simp, by simp [Pu.wordB, Pu.words, toList_mk, ByteArray.toList_eq]⟩
def uN (l : List UInt8) (L : List Nd) : Nd := .mk 2 ⟨l.toArray⟩ 0 L 0 0 0
theorem td_L : TD [116, 121, 112, 101, 32, 76, 32, 39, 97, 32, 61, 32, 78, 32, 124, 32, 67, 32, 39, 97, 32, 40, 76, 32, 39, 97, 41, 59] [116, 121, 112, 101, 32, 76, 32, 39, 97, 32, 61, 32, 78, 32, 124, 32, 67, 32, 39, 97, 32, 40, 76, 32, 39, 97, 41] := by
  have hv : Ty3 (.mk 16 vA 0 [] 0 0 0) := .var _ _ _ _ _ vA_v (by decide) rfl
  have hl : Ty3 (uN [76] [.mk 16 vA 0 [] 0 0 0]) := .up _ _ _ _ _ _ (up1 76 (by decide)) (by decide) rfl (by simp; exact hv)
  have hd : D3 (.ty (tkO [76]) [tkO [39, 97]] [uN [78] [], uN [67] [.mk 16 vA 0 [] 0 0 0, uN [76] [.mk 16 vA 0 [] 0 0 0]]]) := by
    refine ⟨up1 76 (by decide), by decide, ?_, by simp, ?_⟩
    · intro v hv
      simp only [List.mem_singleton] at hv
      subst hv
      exact ⟨vA_v, by decide⟩
    · intro m hm
      simp only [List.mem_cons, List.not_mem_nil, or_false] at hm
      rcases hm with rfl | rfl
      · exact ⟨_, _, _, _, _, rfl, up1 78 (by decide), by decide, by simp⟩
      · exact ⟨_, _, _, _, _, rfl, up1 67 (by decide), by decide, by
          intro x hx
          simp only [List.mem_cons, List.not_mem_nil, or_false] at hx
          rcases hx with rfl | rfl
          · exact hv
          · exact hl⟩
  have := hd.td
  simpa [dcS, vsW, mksW, tkO, uN, vA, sh, joinE, prL, behindP, atP, lv, par_f, par_t, toList_mk] using this
theorem td_S : TD [116, 121, 112, 101, 32, 83, 32, 61, 32, 80, 32, 124, 32, 81, 32, 73, 110, 116, 32, 66, 111, 111, 108, 59] [116, 121, 112, 101, 32, 83, 32, 61, 32, 80, 32, 124, 32, 81, 32, 73, 110, 116, 32, 66, 111, 111, 108] := by
  have hi : Ty3 (uN [73, 110, 116] []) := .up _ _ _ _ _ _ ⟨73, [110, 116], toList_mk _, by decide, by decide⟩ (by decide) rfl (by simp)
  have hb : Ty3 (uN [66, 111, 111, 108] []) := .up _ _ _ _ _ _ ⟨66, [111, 111, 108], toList_mk _, by decide, by decide⟩ (by decide) rfl (by simp)
  have hd : D3 (.ty (tkO [83]) [] [uN [80] [], uN [81] [uN [73, 110, 116] [], uN [66, 111, 111, 108] []]]) := by
    refine ⟨up1 83 (by decide), by decide, by simp, by simp, ?_⟩
    intro m hm
    simp only [List.mem_cons, List.not_mem_nil, or_false] at hm
    rcases hm with rfl | rfl
    · exact ⟨_, _, _, _, _, rfl, up1 80 (by decide), by decide, by simp⟩
    · exact ⟨_, _, _, _, _, rfl, up1 81 (by decide), by decide, by
        intro x hx
        simp only [List.mem_cons, List.not_mem_nil, or_false] at hx
        rcases hx with rfl | rfl
        · exact hi
        · exact hb⟩
  have := hd.td
  simpa [dcS, vsW, mksW, tkO, uN, vA, sh, joinE, prL, behindP, atP, lv, par_f, par_t, toList_mk] using this
/-- A made program of so many declared names. -/
def MP (n : Nat) (l : List UInt8) : Prop := l.length ≤ 337 + 8 * n ∧ ∃ S, TP l S ∧ S ≠ [] ∧ S.length ≤ l.length + 2 + 3 * n
theorem MP.zero : MP 0 prel := by
  refine ⟨by decide, ?_⟩
  have h0 : TP [] [] := ⟨[], fun s i _ _ _ => ⟨[], by simp, rfl⟩, .nil⟩
  exact ⟨_, (h0.snoc td_L).snoc td_S, by simp, by decide⟩
theorem MP.next {n : Nat} {c : UInt8} {l m : List UInt8} (h : MP n l) (hc : NmL (one1 c)) (k : ME m) (hz : l.length + m.length ≤ 330 ∨ m = [49]) : MP (n + 1) (l ++ [108, 101, 116, 32] ++ [c] ++ [61] ++ m ++ [59]) := by
  obtain ⟨h1, S, h2, h3, h4⟩ := h
  obtain ⟨R, k1, k2⟩ := k.td hc
  refine ⟨?_, _, by simpa using h2.snoc k1, by simp [h3], ?_⟩
  · rcases hz with q | rfl
    · simp; omega
    · simp; omega
  · simp
    omega
/-- A made program is shown, and what is shown is shown again as it is. -/
theorem MP.shown {n : Nat} {l : List UInt8} (h : MP n l) (hn : n ≤ 3) : ∃ S, S ≠ [] ∧ showA (bs l) = (S, noFl) ∧ showA (bs S) = (S, noFl) := by
  obtain ⟨h1, S, ⟨p, a1, a2⟩, h3, h4⟩ := h
  obtain ⟨B, b1, b2⟩ := readP_of a1.weak a2 (by omega)
  have b3 : (prS B).length ≤ 400 := by rw [b2]; omega
  obtain ⟨D, d1, d2⟩ := reshow b1 b3
  rw [b2] at d1 d2
  refine ⟨S, h3, ?_, ?_⟩
  · unfold showA; simp only [b1, b2]
  · unfold showA; simp only [d1, d2]
end Go.Proofs.YteneoapickhpdaaGreatDoor
namespace Go.Proofs.YteneoapickhpdaaGreatDoor
open Go Go.RowKit Go.ChangeMaps Un
/-- A declaration whose last sign is missing. -/
theorem readP_cut {l : List UInt8} {p : List Ky} {c : Nat} {s : List UInt8} {t : Nd} (hl : Lx true l p) (hb : RdB p c s t) (hz : l.length ≤ 400) : readP (bs l) = .error ⟨3, l.length, l.length⟩ := by
  obtain ⟨T, e, k⟩ := hl (bs l) 0 (bs_has l) (Nat.zero_le _) (fun _ => by rw [Pu.at_ge (s := bs l) (i := 0 + l.length) (by rw [bs_size]; omega)]; rfl)
  rw [Pu.toks_end (s := bs l) (i := 0 + l.length) (by rw [bs_size]; omega)] at e
  have hlen : T.length = p.length := by rw [← k]; simp
  have hs : Sits (T ++ [Pu.endTok (bs l)]) 0 p := fun i hi => by
    have : tk (T ++ [Pu.endTok (bs l)]) (0 + i) = T[i]'(by omega) := by
      unfold tk
      rw [Nat.zero_add, List.getD_eq_getElem?_getD, List.getElem?_append_left (by omega), List.getElem?_eq_getElem (by omega)]
      rfl
    rw [this]
    subst k
    simp
  have hend : tk (T ++ [Pu.endTok (bs l)]) (0 + p.length) = Pu.endTok (bs l) := by
    unfold tk
    rw [Nat.zero_add, List.getD_eq_getElem?_getD, List.getElem?_append_right (by omega), hlen]
    simp
  obtain ⟨r, hr0, hr1⟩ := hb.hd
  have hkey : keyT (tk (T ++ [Pu.endTok (bs l)]) (0 + p.length)) = (7, []) := by rw [hend]; simp [keyT, Pu.endTok, ByteArray.toList_eq]
  obtain ⟨tok, nd, e1, g, hr⟩ := hb.reads (T := T ++ [Pu.endTok (bs l)]) (k := 0) (n := (T ++ [Pu.endTok (bs l)]).length) hs (by simp; omega) (by simp; omega) (en_key hkey (by decide))
  have h0 : keyT (tk (T ++ [Pu.endTok (bs l)]) 0) = yLet := by have := hs; rw [hr0] at this; exact this.hd
  have hlet : isT (tk (T ++ [Pu.endTok (bs l)]) 0) kLet = true := is_yes h0
  have hns : isT (Pu.endTok (bs l)) kSemi = false := by rw [← hend]; exact is_no hkey (by decide)
  have hd : declM (T ++ [Pu.endTok (bs l)]) (T ++ [Pu.endTok (bs l)]).length 0 = .error ⟨3, l.length, l.length⟩ := by
    unfold declM
    rw [is_no h0 (by decide)]
    show letDM _ (exprM _ _) 0 = _
    unfold letDM
    simp only [bnd, hr, wantM, hend, hns]
    simp [flOf, Pu.endTok, bs_size]
  unfold readP
  rw [if_neg (by rw [bs_size]; omega), e]
  obtain ⟨f, hf⟩ : ∃ f, (T ++ [Pu.endTok (bs l)]).length = f + 1 := ⟨T.length, by simp⟩
  have hdd : declsF (T ++ [Pu.endTok (bs l)]) (declM (T ++ [Pu.endTok (bs l)]) (T ++ [Pu.endTok (bs l)]).length) (T ++ [Pu.endTok (bs l)]).length [] 0 = .error ⟨3, l.length, l.length⟩ := by
    conv => lhs; arg 3; rw [hf]
    rw [decls_go (Or.inr hlet)]
    simp only [bnd, hd]
  simp only [bnd, hdd]
def fixA : List UInt8 := [108, 101, 116, 32, 105, 100, 61, 102, 117, 110, 32, 120, 45, 62, 40, 120, 41, 59]
def fixB : List UInt8 := [108, 101, 116, 32, 120, 32, 61, 32, 121, 32, 122]
def fixZ : List UInt8 := [108, 101, 116, 32, 105, 100, 32, 61, 32, 102, 117, 110, 32, 120, 32, 45, 62, 32, 120, 59, 10]
theorem nmx (c : UInt8) (h : Pu.lowB c.toNat = true) (hw : Pu.wordB ⟨#[c]⟩ = false) : Lx true [c] [(1, [c])] := by
  have := (nm1 c h hw).lx
  rw [one1_l] at this
  exact this
theorem show_A : showA (bs fixA) = (fixZ, noFl) := by
  have x1 : Lx true [120] [(1, [120])] := nmx 120 (by decide) (by simp [Pu.wordB, Pu.words, ByteArray.toList_eq])
  have id1 : Lx true [105, 100] [(1, [105, 100])] := by
    have : NmL ⟨[105, 100].toArray⟩ := ⟨105, [100], toList_mk _, by decide, by decide, by simp [Pu.wordB, Pu.words, ByteArray.toList_eq]⟩
    have := this.lx
    rw [toList_mk] at this
    exact this
  have rx : Rds 5 [(1, [120])] (leafT (1, [120])) := Rds.leaf (by simp)
  have rp := (rx.down (by omega) 0 (by omega)).par
  have lp : Lx true [40, 120, 41] (yOpen :: ([(1, [120])] ++ [yClose])) := (lx_open.pre (x1.post lx_close rfl (by decide))).weak
  have lf : Lx true ([102, 117, 110, 32] ++ ([120] ++ ([45, 62] ++ [40, 120, 41]))) ([yFun] ++ ([(1, [120])] ++ ([yArrow] ++ (yOpen :: ([(1, [120])] ++ [yClose]))))) := lx_fun.pre (x1.mid lx_arrow rfl (by decide) lp)
  have rf : RdF ([yFun] ++ ([(1, [120])] ++ ([yArrow] ++ (yOpen :: ([(1, [120])] ++ [yClose]))))) (tFn ⟨[120].toArray⟩ (leafT (1, [120]))) := ⟨_, _, _, rfl, rfl, rp.down (by omega) 0 (by omega)⟩
  have la := lx_let.pre (id1.mid lx_eq1 rfl (by decide) lf)
  have hb : TB ([108, 101, 116, 32] ++ ([105, 100] ++ ([61] ++ ([102, 117, 110, 32] ++ ([120] ++ ([45, 62] ++ [40, 120, 41])))))) 10 ⟨[105, 100].toArray⟩ (tFn ⟨[120].toArray⟩ (leafT (1, [120]))) := ⟨_, la, _, .inl ⟨rfl, by rw [toList_mk]; rfl, rf.rds⟩⟩
  have h0 : TP [] [] := ⟨[], fun s i _ _ _ => ⟨[], by simp, rfl⟩, .nil⟩
  obtain ⟨p, a1, a2⟩ := h0.snoc hb.decl
  obtain ⟨B, b1, b2⟩ := readP_of a1.weak a2 (by simp)
  have b1' : readP (bs fixA) = .ok B := by simpa [fixA] using b1
  have b2' : prS B = fixZ := by rw [b2]; simp [letS, fixZ, sh, tFn, leafT, joinE, prL, gP, toList_mk]
  unfold showA
  simp only [b1', b2']
theorem show_B : showA (bs fixB) = ([], ⟨3, 11, 11⟩) := by
  have x1 : NmL (one1 120) := nm1 120 (by decide) (by simp [Pu.wordB, Pu.words, ByteArray.toList_eq])
  have y1 : Lx true [121] [(1, [121])] := nmx 121 (by decide) (by simp [Pu.wordB, Pu.words, ByteArray.toList_eq])
  have z1 : Lx true [122] [(1, [122])] := nmx 122 (by decide) (by simp [Pu.wordB, Pu.words, ByteArray.toList_eq])
  have hy : TE 5 [121] (leafT (1, [121])) := ⟨_, y1, Rds.leaf (by simp)⟩
  have hz : TE 5 [122] (leafT (1, [122])) := ⟨_, z1, Rds.leaf (by simp)⟩
  obtain ⟨p, a1, a2⟩ := TB.no x1 (((hy.down (by omega) (by omega : 4 ≤ 5)).app hz).down (by omega) (Nat.zero_le _))
  have := readP_cut a1 a2 (by simp [letS, one1_l])
  have e : readP (bs fixB) = .error ⟨3, 11, 11⟩ := by simpa [letS, one1_l, fixB] using this
  unfold showA
  simp only [e]
end Go.Proofs.YteneoapickhpdaaGreatDoor
