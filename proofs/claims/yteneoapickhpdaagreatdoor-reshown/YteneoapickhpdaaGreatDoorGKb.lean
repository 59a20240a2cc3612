import Derived.Test.YteneoapickhpdaaGreatDoorGPe
import Derived.Test.YteneoapickhpdaaGreatDoorGTt
import Derived.Test.YteneoapickhpdaaGreatDoorGZl
set_option linter.unusedSimpArgs false
set_option linter.unusedVariables false
set_option linter.unusedSectionVars false
namespace Go.Proofs.YteneoapickhpdaaGreatDoor
open Go Go.RowKit Un
theorem ext_shape {s : ByteArray} {i b : Nat} (hi : i < b) (hb : b ≤ s.size) : ∃ x r, (s.extract i b).toList = x :: r ∧ x.toNat = Pu.at_ s i ∧ ∀ p : Nat → Bool, (∀ j, i < j → j < b → p (Pu.at_ s j) = true) → ∀ y ∈ r, p y.toNat = true := by
  have hl : (s.extract i b).toList.length = b - i := by
    rw [ByteArray.toList_eq]
    show (s.extract i b).size = _
    rw [ByteArray.size_extract]; omega
  have hg : ∀ j (h : j < (s.extract i b).toList.length), ((s.extract i b).toList[j]).toNat = Pu.at_ s (i + j) := fun j h => by
    rw [← at_ext s i b j hb (by omega), Pu.at_lt (by rw [ByteArray.size_extract]; omega)]
    simp only [ByteArray.toList_eq, ByteArray.getElem_eq_getElem_data, Array.getElem_toList]
  cases hc : (s.extract i b).toList with
  | nil => rw [hc] at hl; simp at hl; omega
  | cons x r =>
    refine ⟨x, r, rfl, ?_, fun p hp y hy => ?_⟩
    · have := hg 0 (by omega)
      simp only [hc] at this
      simpa using this
    · obtain ⟨j, hj, rfl⟩ := List.getElem_of_mem hy
      rw [hc] at hl
      simp at hl
      have := hg (j + 1) (by rw [hc]; simp; omega)
      simp only [hc] at this
      simp only [List.getElem_cons_succ] at this
      rw [this]
      exact hp _ (by omega) (by omega)
theorem numF_dig (s : ByteArray) : ∀ k, (∀ i, i < k → Pu.digB (Pu.at_ s i) = true) → numF s k < 10 ^ k
  | 0, _ => by simp [numF]
  | k + 1, h => by
    have h1 := numF_dig s k (fun i hi => h i (by omega))
    have h2 := h k (by omega)
    simp [Pu.digB] at h2
    have : (Pu.at_ s k + 208) % 256 ≤ 9 := by omega
    simp only [numF, Nat.pow_succ]
    omega
theorem numB_lt {s : ByteArray} (h : DigN s) : numB s < 1000000000 := by
  unfold numB
  obtain ⟨h1, h2, h3⟩ := h
  rw [Nat.min_eq_left h2]
  have := numF_dig s s.size h3
  have h4 : (10 : Nat) ^ s.size ≤ 10 ^ 9 := Nat.pow_le_pow_right (by decide) h2
  omega
theorem mk_ext (s : ByteArray) {x : UInt8} {r : List UInt8} (h : s.toList = x :: r) : (⟨(x :: r).toArray⟩ : ByteArray) = s := toList_inj (by rw [h]; exact toList_mk _)
theorem tokAt_G (s : ByteArray) (hs : s.size ≤ 400) (i : Nat) (hi : i < s.size) : TokG (Pu.tokAt s i) := by
  have hin := tokAt_in s i hi
  have ht := Pu.tokAt_to s i hi
  have hf := Pu.tokAt_frm s i
  have hsz : (Pu.tokAt s i).text.size ≤ 400 := by have := hin.sp; omega
  refine ⟨fun k1 => ?_, fun k2 => ?_, fun k3 => ?_, fun k4 => numB_lt (hin.v4 k4), hsz⟩
  · clear hin hsz
    revert k1 ht hf
    unfold Pu.tokAt
    repeat' split
    all_goals intro ht hf k1
    all_goals try (exfalso; simp [Pu.mkT] at k1; done)
    rename_i h1 h2
    simp only [Pu.mkT] at ht
    obtain ⟨x, r, e1, e2, e3⟩ := ext_shape ht.1 ht.2
    refine ⟨x, r, e1, by rw [e2]; exact h1, e3 _ (fun j a b => endTo_all (j - i) i j rfl (by omega) b), ?_⟩
    rw [mk_ext _ e1]
    simpa using h2
  · clear hin hsz
    revert k2 ht hf
    unfold Pu.tokAt
    repeat' split
    all_goals intro ht hf k2
    all_goals try (exfalso; simp [Pu.mkT] at k2; done)
    rename_i h1 h2
    simp only [Pu.mkT] at ht
    obtain ⟨x, r, e1, e2, e3⟩ := ext_shape ht.1 ht.2
    exact ⟨x, r, e1, by rw [e2]; exact h2, e3 _ (fun j a b => endTo_all (j - i) i j rfl (by omega) b)⟩
  · clear hin hsz
    revert k3 ht hf
    unfold Pu.tokAt
    repeat' split
    all_goals intro ht hf k3
    all_goals try (exfalso; simp [Pu.mkT] at k3; done)
    rename_i h1 h2 h3 h4
    simp only [Pu.mkT] at ht
    obtain ⟨x, r, e1, e2, e3⟩ := ext_shape ht.1 ht.2
    have hlt : i + 1 < Pu.endTo s Pu.nameB (i + 1) := by
      have hi1 : i + 1 < s.size := by
        rcases Nat.lt_or_ge (i + 1) s.size with q | q
        · exact q
        · have := h3.2; rw [Pu.at_ge q] at this; simp [Pu.lowB] at this
      rw [Pu.endTo_yes hi1 (by simp [Pu.nameB, h3.2])]
      have := Pu.endTo_ge s Pu.nameB (i + 1 + 1)
      omega
    obtain ⟨y, r', e1', e2', e3'⟩ := ext_shape hlt ht.2
    have e39 : x = 39 := UInt8.toNat_inj.1 (by rw [e2, h3.1]; rfl)
    have er : r = y :: r' := by
      have q1 := extract_head hi ht.1
      rw [e1, e1'] at q1
      injection q1 with _ q2
    refine ⟨y, r', by show (s.extract i _).toList = _; rw [e1, e39, er], by rw [e2']; exact h3.2, e3' _ (fun j a b => endTo_all (j - (i + 1)) (i + 1) j rfl (by omega) b), ?_⟩
    rw [mk_ext _ e1']
    simpa using h4
theorem toksF_mem (s : ByteArray) : ∀ f i t, t ∈ Pu.toksF s f i → (∃ j, j < s.size ∧ t = Pu.tokAt s j) ∨ t = Pu.endTok s
  | 0, i, t, h => Or.inr (by simpa [Pu.toksF] using h)
  | f + 1, i, t, h => by
    unfold Pu.toksF at h
    split at h
    · rename_i hi
      split at h
      · exact toksF_mem s f _ t h
      · rcases List.mem_cons.1 h with rfl | h
        · exact Or.inl ⟨i, hi, rfl⟩
        · exact toksF_mem s f _ t h
    · exact Or.inr (by simpa using h)
theorem toksF_lastK (s : ByteArray) : ∀ f i, ∃ l, Pu.toksF s f i = l ++ [Pu.endTok s] ∧ l.length ≤ f
  | 0, i => ⟨[], rfl, by simp⟩
  | f + 1, i => by
    unfold Pu.toksF
    split
    · split
      · obtain ⟨l, h1, h2⟩ := toksF_lastK s f (i + 1); exact ⟨l, h1, by omega⟩
      · obtain ⟨l, h1, h2⟩ := toksF_lastK s f (Pu.tokAt s i).to; exact ⟨Pu.tokAt s i :: l, by rw [h1]; rfl, by simp; omega⟩
    · exact ⟨[], rfl, by simp⟩
theorem tk_any (T : List Pu.Tok) (k : Nat) : tk T k ∈ T ∨ tk T k = ⟨7, ⟨#[]⟩, 0, 0⟩ := by
  by_cases h : k < T.length
  · left; rw [← tk_eq h]; exact List.getElem_mem h
  · right; unfold tk; rw [List.getD_eq_getElem?_getD, List.getElem?_eq_none (by omega)]; rfl
theorem tokEnd_G (t : Pu.Tok) (h7 : t.kind = 7) (hz : t.text.size ≤ 400) : TokG t := ⟨by simp [h7], by simp [h7], by simp [h7], by simp [h7], hz⟩
theorem lex_good (s : ByteArray) (hs : s.size ≤ 400) : LexG (Pu.toks s 0) ((Pu.toks s 0).length - 1) ∧ (Pu.toks s 0).length ≤ 401 := by
  obtain ⟨l, h1, h2⟩ := toksF_lastK s (s.size - 0) 0
  have e : Pu.toks s 0 = l ++ [Pu.endTok s] := h1
  refine ⟨⟨?_, fun k => ?_, by rw [e]; simp⟩, by rw [e]; simp; omega⟩
  · rw [e]
    unfold tk
    simp [Pu.endTok]
  · rcases tk_any (Pu.toks s 0) k with q | q
    · rcases toksF_mem s _ _ _ q with ⟨j, hj, q⟩ | q
      · rw [q]; exact tokAt_G s hs j hj
      · rw [q]; exact tokEnd_G _ rfl (by simp [Pu.endTok]; decide)
    · rw [q]; exact tokEnd_G _ rfl (by decide)
theorem isFl_in {s : ByteArray} {f : Fl} (h : IsFl (Pu.toks s 0) f) : f.kind ≠ 0 ∧ f.frm ≤ f.to ∧ f.to ≤ s.size := by
  obtain ⟨k, rfl⟩ := h
  refine ⟨flOf_kind _, ?_⟩
  have : (tk (Pu.toks s 0) k).frm ≤ (tk (Pu.toks s 0) k).to ∧ (tk (Pu.toks s 0) k).to ≤ s.size := by
    rcases tk_any (Pu.toks s 0) k with q | q
    · rcases toksF_mem s _ _ _ q with ⟨j, hj, q⟩ | q
      · rw [q, Pu.tokAt_frm]; have := Pu.tokAt_to s j hj; omega
      · rw [q]; simp [Pu.endTok]
    · rw [q]; simp
  unfold flOf
  split <;> exact this
/-- Declarations. -/
def D3 : Dc → Prop
  | .ty t vs ms => NmU t.text ∧ t.text.size ≤ 400 ∧ (∀ v ∈ vs, NmV v.text ∧ v.text.size ≤ 400) ∧ ms ≠ [] ∧ ∀ m ∈ ms, Up3 Ty3 m
  | .lt r t b => NmL t.text ∧ t.text.size ≤ 400 ∧ Ex3 b ∧ (r = true → Fn3 b)
def nd3 : Dc → Nat
  | .ty _ vs ms => 1 + vs.length + nnL ms
  | .lt _ _ b => 1 + nn b
section
variable {T : List Pu.Tok} {e : Nat}
theorem vars_got (h : LexG T e) : ∀ f l k, k ≤ e → Got T (varsF T f l k) (fun l' k' => ∃ vs, l' = l ++ vs ∧ (∀ v ∈ vs, NmV v.text ∧ v.text.size ≤ 400) ∧ k ≤ k' ∧ k' ≤ e ∧ vs.length = k' - k)
  | 0, l, k, hk => ⟨[], by simp, by simp, Nat.le_refl _, hk, by simp⟩
  | f + 1, l, k, hk => by
    unfold varsF
    split
    · rename_i h3
      refine (vars_got h f _ (k + 1) (h.step hk (by omega))).mono ?_
      rintro l' k' ⟨vs, rfl, a1, a2, a3, a4⟩
      exact ⟨tk T k :: vs, by simp, fun v hv => by
        rcases List.mem_cons.1 hv with rfl | hv
        · exact ⟨(h.tok k).var h3, (h.tok k).sz⟩
        · exact a1 v hv, by omega, a3, by simp; omega⟩
    · exact ⟨[], by simp, by simp, Nat.le_refl _, hk, by simp⟩
theorem maker_ok (h : LexG T e) {sm : M Nd} (hm : OkP T e Ty3 sm) : OkP T e (Up3 Ty3) (makerM T sm) := by
  intro k hk
  unfold makerM
  refine (got_name h hk 2 (by decide)).bnd ?_
  rintro t k1 ⟨rfl, t1, rfl, p1⟩
  refine (headF_got h hm T.length _ (k + 1) p1 ⟨_, [], _, _, _, rfl, (h.tok k).up t1, (h.tok k).sz, by simp⟩).mono ?_
  rintro a k' ⟨q1, q2, q3, q4⟩
  simp only [nn, nnL] at q4
  exact ⟨q1, by omega, q3, by omega⟩
theorem makers_got (h : LexG T e) {mk : M Nd} (hm : OkP T e (Up3 Ty3) mk) : ∀ f l k, k ≤ e → Got T (makersF T mk f l k) (fun l' k' => ∃ ms, l' = l ++ ms ∧ (∀ m ∈ ms, Up3 Ty3 m) ∧ (f ≠ 0 → ms ≠ []) ∧ k ≤ k' ∧ k' ≤ e ∧ nnL ms ≤ 2 * (k' - k))
  | 0, l, k, hk => ⟨[], by simp, by simp, by simp, Nat.le_refl _, hk, by simp [nnL]⟩
  | f + 1, l, k, hk => by
    rw [makers_go]
    refine (hm k hk).bnd ?_
    rintro m k1 ⟨a1, a2, a3, a4⟩
    unfold restMk
    split
    · rename_i hc
      refine (makers_got h hm f _ (k1 + 1) (h.step a3 (by rw [isT_5 hc]; decide))).mono ?_
      rintro l' k2 ⟨ms, rfl, c1, _, c3, c4, c5⟩
      refine ⟨m :: ms, by simp, fun q hq => ?_, by simp, by omega, c4, by simp [nnL]; omega⟩
      rcases List.mem_cons.1 hq with rfl | hq
      · exact a1
      · exact c1 q hq
    · exact ⟨[m], rfl, by simpa using a1, by simp, by omega, a3, by simp [nnL]; omega⟩
def SpD (e k : Nat) (d : Dc) (k' : Nat) : Prop := D3 d ∧ k < k' ∧ k' ≤ e ∧ nd3 d ≤ 2 * (k' - k)
theorem decl_ok (h : LexG T e) (n : Nat) {k : Nat} (hk : k ≤ e) : Got T (declM T n k) (SpD e k) := by
  have ht := typ_ok h n
  unfold declM
  split
  · unfold typeM
    refine (got_want h hk kType).bnd ?_
    rintro _ k1 ⟨rfl, p1⟩
    refine (got_name h p1 2 (by decide)).bnd ?_
    rintro t k2 ⟨rfl, t1, rfl, p2⟩
    refine (vars_got h T.length [] _ p2).bnd ?_
    rintro l k3 ⟨vs, rfl, v1, v2, v3, v4⟩
    refine (got_want h v3 kEq).bnd ?_
    rintro _ k4 ⟨rfl, p4⟩
    refine (makers_got h (maker_ok h (small_ok h (leaf1 h) ht ht)) T.length [] _ p4).bnd ?_
    rintro l k5 ⟨ms, rfl, m1, m2, m3, m4, m5⟩
    refine (got_want h m4 kSemi).bnd ?_
    rintro _ k6 ⟨rfl, p6⟩
    exact ⟨⟨(h.tok _).up t1, (h.tok _).sz, by simpa using v1, by simpa using m2 (by have := h.pos; omega), by simpa using m1⟩, by omega, p6, by simp [nd3]; omega⟩
  · unfold letDM
    refine (bound_ok h (expr_ok h n) hk).bnd ?_
    rintro ⟨c, t, x⟩ k1 ⟨⟨s1, s2, s3⟩, p2, p3, p4⟩
    refine (got_want h p3 kSemi).bnd ?_
    rintro _ k2 ⟨rfl, p5⟩
    simp only at s3 p4
    refine ⟨⟨s1, s2, ?_, ?_⟩, by omega, p5, by simp [nd3]; omega⟩
    · rcases s3 with ⟨_, q⟩ | ⟨_, q⟩
      · exact q
      · exact q.ex
    · intro hr
      rcases s3 with ⟨q, _⟩ | ⟨_, q⟩
      · simp [q] at hr
      · exact q
def ndL (l : List Dc) : Nat := (l.map nd3).sum
theorem decls_got (h : LexG T e) (n : Nat) : ∀ f l k, k ≤ e → (∀ d ∈ l, D3 d) → Got T (declsF T (declM T n) f l k) (fun l' k' => (∀ d ∈ l', D3 d) ∧ k ≤ k' ∧ k' ≤ e ∧ ndL l' ≤ ndL l + 2 * (k' - k))
  | 0, l, k, hk, hl => ⟨hl, Nat.le_refl _, hk, by omega⟩
  | f + 1, l, k, hk, hl => by
    unfold declsF
    split
    · refine (decl_ok h n hk).bnd ?_
      rintro d k1 ⟨a1, a2, a3, a4⟩
      refine (decls_got h n f _ k1 a3 ?_).mono ?_
      · intro x hx
        rcases List.mem_append.1 hx with q | q
        · exact hl x q
        · rw [List.mem_singleton.1 q]; exact a1
      · rintro l' k2 ⟨b1, b2, b3, b4⟩
        have : ndL (l ++ [d]) = ndL l + nd3 d := by simp [ndL]
        exact ⟨b1, by omega, b3, by omega⟩
    · exact ⟨hl, Nat.le_refl _, hk, by omega⟩
end
theorem readP_got {s : ByteArray} (hs : ¬ 400 < s.size) : match readP s with
    | .error f => f.kind ≠ 0 ∧ f.frm ≤ f.to ∧ f.to ≤ s.size
    | .ok l => (∀ d ∈ l, D3 d) ∧ ndL l ≤ 802 := by
  obtain ⟨h, hl⟩ := lex_good s (by omega)
  have h1 := (decls_got h (Pu.toks s 0).length (Pu.toks s 0).length [] 0 (Nat.zero_le _) (by simp)).bnd (f := endP (Pu.toks s 0)) (R := fun l' k' => (∀ d ∈ l', D3 d) ∧ ndL l' ≤ 802) (by
    rintro l' k' ⟨a1, a2, a3, a4⟩
    unfold endP
    split
    · exact ⟨a1, by simp [ndL] at a4 ⊢; omega⟩
    · exact got_wrong)
  unfold readP
  rw [if_neg hs]
  revert h1
  cases bnd (declsF (Pu.toks s 0) (declM (Pu.toks s 0) (Pu.toks s 0).length) (Pu.toks s 0).length []) (endP (Pu.toks s 0)) 0 with
  | error f => intro h1; exact isFl_in h1
  | ok p => intro h1; exact h1
end Go.Proofs.YteneoapickhpdaaGreatDoor
namespace Go.Proofs.YteneoapickhpdaaGreatDoor
open Go Go.RowKit Un
theorem dec_len_pow : ∀ (k n : Nat), n < 10 ^ (k + 1) → (dec n).length ≤ k + 1
  | 0, n, h => by
    have h' : n < 10 := by simpa using h
    unfold dec
    rw [if_pos h']; simp
  | k + 1, n, h => by
    unfold dec
    split
    · simp
    · have := dec_len_pow k (n / 10) (by rw [Nat.pow_succ] at h; omega)
      simp; omega
theorem dec_len9 {n : Nat} (h : n < 1000000000) : (dec n).length ≤ 9 := dec_len_pow 8 n h
inductive S4 : Nd → Prop where
  | mk (k : Nat) (s : ByteArray) (n : Nat) (L : List Nd) (f t a : Nat) (hs : s.size ≤ 400) (hn : n < 1000000000) (hL : ∀ x ∈ L, S4 x) : S4 (.mk k s n L f t a)
theorem Ty3.s4 {nd : Nd} (h : Ty3 nd) : S4 nd := by
  induction h with
  | var s n f t a h1 h2 h3 => exact .mk _ _ _ _ _ _ _ h2 (by omega) (by simp)
  | up s n L f t a h1 h2 h3 h4 ih => exact .mk _ _ _ _ _ _ _ h2 (by omega) ih
  | pr x y f t a hx hy ihx ihy => exact .mk _ _ _ _ _ _ _ (by decide) (by omega) (by simp [ihx, ihy])
  | fn x y f t a hx hy ihx ihy => exact .mk _ _ _ _ _ _ _ (by decide) (by omega) (by simp [ihx, ihy])
theorem Pa3.s4 {nd : Nd} (h : Pa3 nd) : S4 nd := by
  induction h with
  | any s f t a h1 => exact .mk _ _ _ _ _ _ _ h1 (by omega) (by simp)
  | low s f t a h1 h2 => exact .mk _ _ _ _ _ _ _ h2 (by omega) (by simp)
  | num s n f t a h1 h2 => exact .mk _ _ _ _ _ _ _ h2 h1 (by simp)
  | word s f t a h1 h2 => exact .mk _ _ _ _ _ _ _ h2 (by omega) (by simp)
  | unit f t a => exact .mk _ _ _ _ _ _ _ (by decide) (by omega) (by simp)
  | pr x y f t a hx hy ihx ihy => exact .mk _ _ _ _ _ _ _ (by decide) (by omega) (by simp [ihx, ihy])
  | up s n L f t a h1 h2 h3 h4 ih => exact .mk _ _ _ _ _ _ _ h2 (by omega) ih
theorem armN_mem3 {x : Nd} : ∀ {A : List (Nd × Nd)}, x ∈ armN A → ∃ p ∈ A, x = p.1 ∨ x = p.2
  | [], h => by simp [armN] at h
  | p :: A, h => by
    simp only [armN, List.mem_cons] at h
    rcases h with rfl | rfl | h
    · exact ⟨p, by simp, Or.inl rfl⟩
    · exact ⟨p, by simp, Or.inr rfl⟩
    · obtain ⟨q, h1, h2⟩ := armN_mem3 h; exact ⟨q, by simp [h1], h2⟩
theorem Ex3.s4 {nd : Nd} (h : Ex3 nd) : S4 nd := by
  induction h with
  | low s f t a h1 h2 => exact .mk _ _ _ _ _ _ _ h2 (by omega) (by simp)
  | up s f t a h1 h2 => exact .mk _ _ _ _ _ _ _ h2 (by omega) (by simp)
  | num s n f t a h1 h2 => exact .mk _ _ _ _ _ _ _ h2 h1 (by simp)
  | word s f t a h1 h2 => exact .mk _ _ _ _ _ _ _ h2 (by omega) (by simp)
  | unit f t a => exact .mk _ _ _ _ _ _ _ (by decide) (by omega) (by simp)
  | pr x y f t a hx hy ihx ihy => exact .mk _ _ _ _ _ _ _ (by decide) (by omega) (by simp [ihx, ihy])
  | of x y f t a hx hy ihx => exact .mk _ _ _ _ _ _ _ (by decide) (by omega) (by simp [ihx, hy.s4])
  | op s x y f t a hs hx hy ihx ihy => exact .mk _ _ _ _ _ _ _ (by rcases hs with rfl | rfl | rfl | rfl <;> decide) (by omega) (by simp [ihx, ihy])
  | call x y f t a hx hy ihx ihy => exact .mk _ _ _ _ _ _ _ (by decide) (by omega) (by simp [ihx, ihy])
  | fn s x f t a h1 h2 hx ihx => exact .mk _ _ _ _ _ _ _ h2 (by omega) (by simp [ihx])
  | lt s x z f t a h1 h2 hx hz ihx ihz => exact .mk _ _ _ _ _ _ _ h2 (by omega) (by simp [ihx, ihz])
  | ltr s s' x z f t a f' t' a' h1 h2 h3 h4 hx hz ihx ihz => exact .mk _ _ _ _ _ _ _ h2 (by omega) (by
      intro q hq
      simp only [List.mem_cons, List.not_mem_nil, or_false] at hq
      rcases hq with rfl | rfl
      · exact .mk _ _ _ _ _ _ _ h4 (by omega) (by simp [ihx])
      · exact ihz)
  | ite x y z f t a hx hy hz ihx ihy ihz => exact .mk _ _ _ _ _ _ _ (by decide) (by omega) (by simp [ihx, ihy, ihz])
  | mt x A f t a h0 hx hp he ihx ihe => exact .mk _ _ _ _ _ _ _ (by decide) (by omega) (by
      intro q hq
      rcases List.mem_cons.1 hq with rfl | hq
      · exact ihx
      · obtain ⟨p, h1, h2⟩ := armN_mem3 hq
        rcases h2 with rfl | rfl
        · exact (hp p h1).s4
        · exact ihe p h1)
def tot : List (Nat × List UInt8) → Nat
  | [] => 0
  | p :: r => (p.2.length + 8) + tot r
theorem atP_len (p : Nat × List UInt8) (k : Nat) : (atP p k).length ≤ p.2.length + 2 := by
  unfold atP Un.par
  split <;> simp
theorem behind_len : ∀ P, (behindP P).length ≤ tot P
  | [] => by simp [behindP, tot]
  | p :: r => by
    have h1 := behind_len r
    have h2 := atP_len p 5
    unfold behindP at h1 ⊢
    simp only [List.flatMap_cons, List.length_append, List.length_cons, tot]
    omega
theorem arms_len : ∀ (P : List (Nat × List UInt8)) (b : Bool), (armsP b P).length ≤ tot P
  | [], b => by simp [armsP, tot]
  | [p], b => by simp [armsP, tot]
  | p :: e :: r, b => by
    have h1 := arms_len r false
    simp only [armsP, List.length_append, tot]
    have : (if b then [] else [32, 124, 32] : List UInt8).length ≤ 3 := by split <;> simp
    simp
    omega
theorem gP_tot (P : List (Nat × List UInt8)) : (gP P 0).2.length + (gP P 1).2.length + (gP P 2).2.length + 0 ≤ tot P ∧ (gP P 0).2.length + tot (P.drop 1) ≤ tot P := by
  match P with
  | [] => simp [gP, tot]
  | [p] => simp [gP, tot]
  | [p, q] => simp [gP, tot]; omega
  | p :: q :: r :: l => simp [gP, tot]; omega
theorem joinE_len (k : Nat) (s : ByteArray) (n l : Nat) (P : List (Nat × List UInt8)) (hn : n < 1000000000) : (joinE k s n l P).length ≤ s.size + 50 + tot P := by
  have hs : s.toList.length = s.size := by rw [ByteArray.toList_eq]; rfl
  have hd := dec_len9 hn
  have hb := behind_len P
  obtain ⟨h1, h2⟩ := gP_tot P
  have ha := arms_len (P.drop 1) true
  have q0 := fun k => atP_len (gP P 0) k
  have q1 := fun k => atP_len (gP P 1) k
  unfold joinE
  by_cases c0 : k = 1 ∨ k = 4 ∨ k = 16
  · rw [if_pos c0]
    simp only [List.length_append, List.length_cons, List.length_nil, hs]
    omega
  rw [if_neg c0]
  by_cases c1 : k = 15
  · rw [if_pos c1]
    simp only [List.length_append, List.length_cons, List.length_nil, hs]
    omega
  rw [if_neg c1]
  by_cases c2 : k = 3
  · rw [if_pos c2]
    omega
  rw [if_neg c2]
  by_cases c3 : k = 5
  · rw [if_pos c3]
    simp only [List.length_append, List.length_cons, List.length_nil, hs]
    omega
  rw [if_neg c3]
  by_cases c4 : k = 2
  · rw [if_pos c4]
    simp only [List.length_append, List.length_cons, List.length_nil, hs]
    omega
  rw [if_neg c4]
  by_cases c5 : k = 6
  · rw [if_pos c5]
    simp only [List.length_append, List.length_cons, List.length_nil, hs]
    omega
  rw [if_neg c5]
  by_cases c6 : k = 14
  · rw [if_pos c6]
    simp only [List.length_append, List.length_cons, List.length_nil, hs]
    omega
  rw [if_neg c6]
  by_cases c7 : k = 17
  · rw [if_pos c7]
    simp only [List.length_append, List.length_cons, List.length_nil, hs]
    have := q0 2
    omega
  rw [if_neg c7]
  by_cases c8 : k = 8
  · rw [if_pos c8]
    simp only [List.length_append, List.length_cons, List.length_nil, hs]
    have := q0 4
    have := q1 5
    omega
  rw [if_neg c8]
  by_cases c9 : k = 7
  · rw [if_pos c9]
    simp only [List.length_append, List.length_cons, List.length_nil, hs]
    have := q0 (if l = 1 then 2 else l)
    have := q1 (l + 1)
    omega
  rw [if_neg c9]
  by_cases c10 : k = 9
  · rw [if_pos c10]
    simp only [List.length_append, List.length_cons, List.length_nil, hs]
    omega
  rw [if_neg c10]
  by_cases c11 : k = 12
  · rw [if_pos c11]
    simp only [List.length_append, List.length_cons, List.length_nil, hs]
    omega
  rw [if_neg c11]
  by_cases c12 : k = 13
  · rw [if_pos c12]
    simp only [List.length_append, List.length_cons, List.length_nil, hs]
    omega
  rw [if_neg c12]
  have : (if k = 11 then [114, 101, 99, 32] else [] : List UInt8).length ≤ 4 := by split <;> simp
  simp only [List.length_append, List.length_cons, List.length_nil, hs]
  omega
mutual
theorem sh_len : ∀ nd, S4 nd → (sh nd).length + 8 ≤ 500 * nn nd
  | .mk k s n L f t a, .mk _ _ _ _ _ _ _ hs hn hL => by
    have h1 := prL_len L hL
    have h2 := joinE_len k s n (lv (.mk k s n L f t a)) (prL L) hn
    simp only [sh, nn]
    omega
theorem prL_len : ∀ L, (∀ x ∈ L, S4 x) → tot (prL L) ≤ 500 * nnL L
  | [], _ => by simp [prL, tot]
  | x :: l, h => by
    have h1 := sh_len x (h x (by simp))
    have h2 := prL_len l (fun y hy => h y (by simp [hy]))
    simp only [prL, tot, nnL]
    omega
end
theorem S4.sm {nd : Nd} (h : S4 nd) : nn nd ≤ 1001 → Sm nd := by
  induction h with
  | mk k s n L f t a hs hn hL ih =>
    intro hz
    simp only [nn] at hz
    refine .mk k s n L f t a (by omega) hn (by have := nnL_len L; omega) fun x hx => ih x hx ?_
    obtain ⟨l1, l2, rfl⟩ := List.append_of_mem hx
    rw [nnL_app] at hz
    simp only [nnL] at hz
    omega
theorem Up3.s4 {nd : Nd} (h : Up3 Ty3 nd) : S4 nd := by
  obtain ⟨s, L, f, t, a, rfl, h1, h2, h3⟩ := h
  exact .mk _ _ _ _ _ _ _ h2 (by omega) fun x hx => (h3 x hx).s4
theorem nnL_mem {x : Nd} {l : List Nd} (h : x ∈ l) : nn x ≤ nnL l := by
  obtain ⟨l1, l2, rfl⟩ := List.append_of_mem h
  rw [nnL_app]
  simp only [nnL]
  omega
theorem mksW_len : ∀ (ms : List Nd) (b : Bool), (∀ m ∈ ms, S4 m) → (mksW b ms).length ≤ 500 * nnL ms
  | [], b, _ => by simp [mksW]
  | m :: ms, b, h => by
    have h1 := sh_len m (h m (by simp))
    have h2 := mksW_len ms false (fun y hy => h y (by simp [hy]))
    have : (if b then [61] else [124] : List UInt8).length = 1 := by split <;> rfl
    simp only [mksW, List.length_append, List.length_cons, List.length_nil, nnL, this]
    omega
theorem vsW_len : ∀ (vs : List Pu.Tok), (∀ v ∈ vs, v.text.size ≤ 400) → (vsW vs).length ≤ 500 * vs.length
  | [], _ => by simp [vsW]
  | v :: vs, h => by
    have h1 := h v (by simp)
    have h2 := vsW_len vs (fun y hy => h y (by simp [hy]))
    have hs : v.text.toList.length = v.text.size := by rw [ByteArray.toList_eq]; rfl
    unfold vsW at h2 ⊢
    simp only [List.flatMap_cons, List.length_append, List.length_cons, List.length_nil, hs]
    omega
theorem D3.len {d : Dc} (h : D3 d) : (dcE d).length ≤ 900 * nd3 d := by
  cases d with
  | ty t vs ms =>
    obtain ⟨h1, h2, h3, h4, h5⟩ := h
    have a1 := vsW_len vs (fun v hv => (h3 v hv).2)
    have a2 := mksW_len ms true (fun m hm => (h5 m hm).s4)
    have hs : t.text.toList.length = t.text.size := by rw [ByteArray.toList_eq]; rfl
    simp only [dcE, dcS, List.length_append, List.length_cons, List.length_nil, hs, nd3]
    omega
  | lt r t b =>
    obtain ⟨h1, h2, h3, h4⟩ := h
    have a2 := sh_len b h3.s4
    have hs : t.text.toList.length = t.text.size := by rw [ByteArray.toList_eq]; rfl
    have : (if r = true then [114, 101, 99, 32] else [] : List UInt8).length ≤ 4 := by split <;> simp
    simp only [dcE, dcS, letS, List.length_append, List.length_cons, List.length_nil, hs, nd3]
    omega
theorem prS_len : ∀ l : List Dc, (∀ d ∈ l, D3 d) → (prS l).length ≤ 900 * ndL l ∧ l.length ≤ ndL l
  | [], _ => by simp [prS, ndL]
  | d :: l, h => by
    have h1 := (h d (by simp)).len
    have h2 := prS_len l (fun y hy => h y (by simp [hy]))
    have h3 : 1 ≤ nd3 d := by cases d <;> simp [nd3] <;> omega
    unfold prS ndL at h2 ⊢
    simp only [List.flatMap_cons, List.length_append, List.map_cons, List.sum_cons, List.length_cons]
    omega
theorem D3.smd {d : Dc} (h : D3 d) (hz : nd3 d ≤ 802) : SmD d := by
  cases d with
  | ty t vs ms =>
    obtain ⟨h1, h2, h3, h4, h5⟩ := h
    simp only [nd3] at hz
    refine ⟨by omega, by omega, fun v hv => by have := (h3 v hv).2; omega, by have := nnL_len ms; omega, fun m hm => (h5 m hm).s4.sm (by have := nnL_mem hm; omega)⟩
  | lt r t b =>
    obtain ⟨h1, h2, h3, h4⟩ := h
    simp only [nd3] at hz
    exact ⟨by omega, h3.s4.sm (by omega)⟩
theorem ndL_mem {d : Dc} {l : List Dc} (h : d ∈ l) : nd3 d ≤ ndL l := by
  obtain ⟨l1, l2, rfl⟩ := List.append_of_mem h
  unfold ndL
  simp
  omega
theorem readP_long {s : ByteArray} (hs : 400 < s.size) : readP s = .error ⟨1, 0, 0⟩ := by unfold readP; rw [if_pos hs]
theorem smP_all (s : ByteArray) : SmP s := by
  intro l hl
  by_cases hs : 400 < s.size
  · rw [readP_long hs] at hl; cases hl
  · have h := readP_got hs
    rw [hl] at h
    obtain ⟨h1, h2⟩ := h
    have h3 := prS_len l h1
    exact ⟨fun d hd => (h1 d hd).smd (by have := ndL_mem hd; omega), by omega, by omega⟩
theorem readP_bad {s : ByteArray} {f : Fl} (hf : readP s = .error f) : f.kind ≠ 0 ∧ f.frm ≤ f.to ∧ f.to ≤ s.size := by
  by_cases hs : 400 < s.size
  · rw [readP_long hs] at hf; cases hf; simp
  · have h := readP_got hs
    rw [hf] at h
    exact h
theorem knP (s : ByteArray) : KnP s := fun _ h => (readP_bad h).1
theorem readP_good {s : ByteArray} {l : List Dc} (hl : readP s = .ok l) : s.size ≤ 400 ∧ ∀ d ∈ l, D3 d := by
  by_cases hs : 400 < s.size
  · rw [readP_long hs] at hl; cases hl
  · have h := readP_got hs
    rw [hl] at h
    exact ⟨by omega, h.1⟩
end Go.Proofs.YteneoapickhpdaaGreatDoor
namespace Go.Proofs.YteneoapickhpdaaGreatDoor
open Go Go.RowKit
mutual
/-- A part without its places. -/
def es : Nd → Nd
  | .mk k s n L _ _ _ => .mk k (if k = 3 ∨ k = 15 then kNo else s) (if k = 3 then n else 0) (esL L) 0 0 0
def esL : List Nd → List Nd
  | [] => []
  | x :: l => es x :: esL l
end
theorem esL_app : ∀ l m, esL (l ++ m) = esL l ++ esL m
  | [], m => rfl
  | x :: l, m => by simp [esL, esL_app l m]
theorem esL_nil {L : List Nd} : esL L = [] ↔ L = [] := by cases L <;> simp [esL]
theorem lv_es (nd : Nd) : lv (es nd) = lv nd := by
  obtain ⟨k, s, n, L, f, t, a⟩ := nd
  by_cases h : k = 3 ∨ k = 15
  · rcases h with rfl | rfl <;> simp [es, lv]
  · simp only [es, if_neg h, lv, esL_nil]
theorem joinE_any (k : Nat) (s : ByteArray) (n l : Nat) (P : List (Nat × List UInt8)) : joinE k (if k = 3 ∨ k = 15 then kNo else s) (if k = 3 then n else 0) l P = joinE k s n l P := by
  by_cases h : k = 3
  · subst h; simp [joinE]
  by_cases h' : k = 15
  · subst h'; simp [joinE]
  rw [if_neg (by omega), if_neg h]
  simp [joinE, h]
mutual
theorem sh_es : ∀ nd, sh (es nd) = sh nd
  | .mk k s n L f t a => by
    have h := prL_es L
    have h2 := lv_es (.mk k s n L f t a)
    simp only [es] at h2
    simp only [es, sh, h, h2]
    exact joinE_any k s n _ _
theorem prL_es : ∀ L, prL (esL L) = prL L
  | [] => rfl
  | x :: l => by simp [esL, prL, lv_es x, sh_es x, prL_es l]
end
abbrev yTrue : Ky := (5, [116, 114, 117, 101])
abbrev yFalse : Ky := (5, [102, 97, 108, 115, 101])
abbrev yAny : Ky := (5, [95])
/-- How strongly what begins so would go on: 4 a part of a call, 3 `*`, 2 `+` and `-`, 1 `<`. -/
def cls (x : Ky) : Nat :=
  if x = yOpen ∨ x.1 = 1 ∨ x.1 = 2 ∨ x.1 = 4 ∨ x = yTrue ∨ x = yFalse then 4 else if x = (5, [42]) then 3 else if x = (5, [43]) ∨ x = (5, [45]) then 2 else if x = (5, [60]) then 1 else 0
theorem beq_dec {α : Type} [BEq α] [LawfulBEq α] [DecidableEq α] (a b : α) : (a == b) = decide (a = b) := by by_cases h : a = b <;> simp [h]
theorem isT_k {t : Pu.Tok} {l : List UInt8} : isT t ⟨l.toArray⟩ = decide (keyT t = (5, l)) := by
  rw [isT_key, beq_dec]
theorem leafK_key (t : Pu.Tok) : (leafK t = 1 ↔ (keyT t).1 = 1) ∧ (leafK t = 2 ↔ (keyT t).1 = 2) ∧ (leafK t = 3 ↔ (keyT t).1 = 4) ∧ (leafK t = 16 ↔ (keyT t).1 = 3) ∧ (leafK t = 4 ↔ keyT t = yTrue ∨ keyT t = yFalse) ∧ (leafK t = 15 ↔ keyT t = yAny) := by
  have h1 : isT t kTrue = decide (keyT t = yTrue) := isT_k
  have h2 : isT t kFalse = decide (keyT t = yFalse) := isT_k
  have h3 : isT t kAny = decide (keyT t = yAny) := isT_k
  have h4 : (keyT t).1 = t.kind := rfl
  unfold leafK
  rw [h1, h2, h3, h4]
  by_cases c1 : t.kind = 1
  · have a1 : keyT t ≠ yTrue := fun q => by rw [q] at h4; simp at h4; omega
    have a2 : keyT t ≠ yFalse := fun q => by rw [q] at h4; simp at h4; omega
    have a3 : keyT t ≠ yAny := fun q => by rw [q] at h4; simp at h4; omega
    simp [c1, a1, a2, a3]
  by_cases c2 : t.kind = 2
  · have a1 : keyT t ≠ yTrue := fun q => by rw [q] at h4; simp at h4; omega
    have a2 : keyT t ≠ yFalse := fun q => by rw [q] at h4; simp at h4; omega
    have a3 : keyT t ≠ yAny := fun q => by rw [q] at h4; simp at h4; omega
    simp [c2, a1, a2, a3]
  by_cases c3 : t.kind = 3
  · have a1 : keyT t ≠ yTrue := fun q => by rw [q] at h4; simp at h4; omega
    have a2 : keyT t ≠ yFalse := fun q => by rw [q] at h4; simp at h4; omega
    have a3 : keyT t ≠ yAny := fun q => by rw [q] at h4; simp at h4; omega
    simp [c3, a1, a2, a3]
  by_cases c4 : t.kind = 4
  · have a1 : keyT t ≠ yTrue := fun q => by rw [q] at h4; simp at h4; omega
    have a2 : keyT t ≠ yFalse := fun q => by rw [q] at h4; simp at h4; omega
    have a3 : keyT t ≠ yAny := fun q => by rw [q] at h4; simp at h4; omega
    simp [c4, a1, a2, a3]
  by_cases d1 : keyT t = yTrue
  · simp [c1, c2, c3, c4, d1]
  by_cases d2 : keyT t = yFalse
  · simp [c1, c2, c3, c4, d2]
  by_cases d3 : keyT t = yAny
  · simp [c1, c2, c3, c4, d3]
  simp [c1, c2, c3, c4, d1, d2, d3]
theorem beg_cls (t : Pu.Tok) : beginsB t 3 = decide (cls (keyT t) = 4) := by
  have ho : isT t kOpen = decide (keyT t = yOpen) := isT_k
  obtain ⟨k1, k2, k3, _, k4, _⟩ := leafK_key t
  have e1 : (leafK t == 1) = decide ((keyT t).1 = 1) := by rw [beq_dec, decide_eq_decide]; exact k1
  have e2 : (leafK t == 2) = decide ((keyT t).1 = 2) := by rw [beq_dec, decide_eq_decide]; exact k2
  have e3 : (leafK t == 3) = decide ((keyT t).1 = 4) := by rw [beq_dec, decide_eq_decide]; exact k3
  have e4 : (leafK t == 4) = decide (keyT t = yTrue ∨ keyT t = yFalse) := by rw [beq_dec, decide_eq_decide]; exact k4
  unfold beginsB
  rw [if_neg (by decide), if_neg (by decide), ho, e1, e2, e3, e4]
  unfold cls
  by_cases h : keyT t = yOpen ∨ (keyT t).1 = 1 ∨ (keyT t).1 = 2 ∨ (keyT t).1 = 4 ∨ keyT t = yTrue ∨ keyT t = yFalse
  · rw [if_pos h]
    simp only [decide_true]
    rcases h with h | h | h | h | h | h <;> simp [h]
  · rw [if_neg h]
    have h' := h
    simp only [not_or] at h'
    obtain ⟨h1, h2, h3, h4, h5, h6⟩ := h'
    rw [decide_eq_false h1, decide_eq_false h2, decide_eq_false h3, decide_eq_false h4, decide_eq_false (by intro q; exact q.elim h5 h6)]
    symm
    rw [Bool.or_false, Bool.or_false, Bool.or_false, Bool.or_false]
    apply decide_eq_false
    repeat' split
    all_goals omega
theorem star_cls (t : Pu.Tok) : isT t kStar = decide (cls (keyT t) = 3) := by
  rw [show isT t kStar = decide (keyT t = (5, [42])) from isT_k, decide_eq_decide]
  constructor
  · intro h; rw [h]; decide
  · intro h; unfold cls at h; repeat' split at h
    all_goals first | omega | assumption
theorem pm_cls (t : Pu.Tok) : (isT t kPlus = true ∨ isT t kMinus = true) ↔ cls (keyT t) = 2 := by
  rw [show isT t kPlus = decide (keyT t = (5, [43])) from isT_k, show isT t kMinus = decide (keyT t = (5, [45])) from isT_k]
  simp only [decide_eq_true_eq]
  constructor
  · rintro (h | h) <;> rw [h] <;> decide
  · intro h; unfold cls at h; repeat' split at h
    all_goals first | omega | assumption
theorem less_cls (t : Pu.Tok) : isT t kLess = decide (cls (keyT t) = 1) := by
  rw [show isT t kLess = decide (keyT t = (5, [60])) from isT_k, decide_eq_decide]
  constructor
  · intro h; rw [h]; decide
  · intro h; unfold cls at h; repeat' split at h
    all_goals first | omega | assumption
/-- Nothing that holds so tightly goes on here. -/
def En (v : Nat) (T : List Pu.Tok) (k : Nat) : Prop := cls (keyT (tk T k)) < v
def Bg (p : List Ky) : Prop := ∃ x r, p = x :: r ∧ cls x = 4
def Hd (p : List Ky) : Prop := ∃ x r, p = x :: r ∧ x ≠ yClose
theorem Hd.len {p : List Ky} (h : Hd p) : 1 ≤ p.length := by obtain ⟨x, r, rfl, _⟩ := h; simp
theorem Bg.hd {p : List Ky} (h : Bg p) : Hd p := by obtain ⟨x, r, rfl, h⟩ := h; exact ⟨x, r, rfl, by rintro rfl; revert h; decide⟩
theorem Bg.len {p : List Ky} (h : Bg p) : 1 ≤ p.length := by obtain ⟨x, r, rfl, _⟩ := h; simp
theorem Bg.app {p : List Ky} (h : Bg p) (q : List Ky) : Bg (p ++ q) := by obtain ⟨x, r, rfl, h⟩ := h; exact ⟨x, r ++ q, rfl, h⟩
theorem Bg.at {p : List Ky} (h : Bg p) {T : List Pu.Tok} {k : Nat} (hs : Sits T k p) : cls (keyT (tk T k)) = 4 := by obtain ⟨x, r, rfl, h⟩ := h; rw [hs.hd]; exact h
section
variable (T : List Pu.Tok) (n : Nat)
abbrev sm3 : M Nd := smallM T (exprM T n) (typM T n) 3
abbrev sm2 : M Nd := smallM T (patM T n) (wrongM T) 2
end
def RdT (m : M Nd) (k : Nat) (p : List Ky) (t : Nd) : Prop := ∃ nd, es nd = t ∧ m k = .ok (nd, k + p.length)
/-- What is read as an expression, and how tightly it holds. -/
def Rds (v : Nat) (p : List Ky) (t : Nd) : Prop := match v with
  | 5 => Bg p ∧ ∀ T k n, Sits T k p → p.length ≤ n + 1 → p.length ≤ T.length + 1 → RdT (sm3 T n) k p t
  | 4 => Bg p ∧ ∀ T k n f, Sits T k p → p.length ≤ n + 1 → p.length ≤ T.length + 1 → p.length ≤ f + 1 → ∃ nd f', es nd = t ∧ f + 1 ≤ f' + p.length ∧ bnd (sm3 T n) (callF T (sm3 T n) (tk T k).frm f) k = callF T (sm3 T n) (tk T k).frm f' nd (k + p.length)
  | 3 => Bg p ∧ ∀ T k n f, Sits T k p → p.length ≤ n + 1 → p.length ≤ T.length + 1 → p.length ≤ f + 1 → En 4 T (k + p.length) → ∃ nd f', es nd = t ∧ f + 1 ≤ f' + p.length ∧ bnd (callM T (sm3 T n)) (prodF T (callM T (sm3 T n)) (tk T k).frm f) k = prodF T (callM T (sm3 T n)) (tk T k).frm f' nd (k + p.length)
  | 2 => Bg p ∧ ∀ T k n f, Sits T k p → p.length ≤ n + 1 → p.length ≤ T.length + 1 → p.length ≤ f + 1 → En 3 T (k + p.length) → ∃ nd f', es nd = t ∧ f + 1 ≤ f' + p.length ∧ bnd (prodM T (callM T (sm3 T n))) (sumF T (prodM T (callM T (sm3 T n))) (tk T k).frm f) k = sumF T (prodM T (callM T (sm3 T n))) (tk T k).frm f' nd (k + p.length)
  | 1 => Bg p ∧ ∀ T k n, Sits T k p → p.length ≤ n + 1 → p.length ≤ T.length + 1 → En 1 T (k + p.length) → RdT (lessM T (sumM T (prodM T (callM T (sm3 T n))))) k p t
  | _ => Hd p ∧ ∀ T k n, Sits T k p → p.length ≤ n → p.length ≤ T.length + 1 → En 1 T (k + p.length) → RdT (exprM T n) k p t
theorem En.up {v u : Nat} {T : List Pu.Tok} {k : Nat} (h : En v T k) (hv : v ≤ u) : En u T k := Nat.lt_of_lt_of_le h hv
theorem callF_stop {T : List Pu.Tok} {sm : M Nd} {fr f k : Nat} {x : Nd} (h : En 4 T k) : callF T sm fr f x k = .ok (x, k) := by
  cases f with
  | zero => rfl
  | succ f => unfold callF; rw [beg_cls, decide_eq_false (by unfold En at h; omega)]; rfl
theorem prodF_stop {T : List Pu.Tok} {sm : M Nd} {fr f k : Nat} {x : Nd} (h : En 3 T k) : prodF T sm fr f x k = .ok (x, k) := by
  cases f with
  | zero => rfl
  | succ f => unfold prodF; rw [star_cls, decide_eq_false (by unfold En at h; omega)]; rfl
theorem sumF_stop {T : List Pu.Tok} {sm : M Nd} {fr f k : Nat} {x : Nd} (h : En 2 T k) : sumF T sm fr f x k = .ok (x, k) := by
  cases f with
  | zero => rfl
  | succ f => unfold sumF; rw [if_neg (by rw [pm_cls]; unfold En at h; omega)]
theorem Rds.call {p : List Ky} {t : Nd} (h : Rds 4 p t) {T : List Pu.Tok} {k n : Nat} (hs : Sits T k p) (hn : p.length ≤ n + 1) (hT : p.length ≤ T.length + 1) (he : En 4 T (k + p.length)) : RdT (callM T (sm3 T n)) k p t := by
  obtain ⟨nd, f', e, _, hr⟩ := h.2 T k n T.length hs hn hT hT
  exact ⟨nd, e, by unfold callM; rw [hr, callF_stop he]⟩
theorem Rds.prod {p : List Ky} {t : Nd} (h : Rds 3 p t) {T : List Pu.Tok} {k n : Nat} (hs : Sits T k p) (hn : p.length ≤ n + 1) (hT : p.length ≤ T.length + 1) (he : En 3 T (k + p.length)) : RdT (prodM T (callM T (sm3 T n))) k p t := by
  obtain ⟨nd, f', e, _, hr⟩ := h.2 T k n T.length hs hn hT hT (he.up (by omega))
  exact ⟨nd, e, by unfold prodM; rw [hr, prodF_stop he]⟩
theorem Rds.sum {p : List Ky} {t : Nd} (h : Rds 2 p t) {T : List Pu.Tok} {k n : Nat} (hs : Sits T k p) (hn : p.length ≤ n + 1) (hT : p.length ≤ T.length + 1) (he : En 2 T (k + p.length)) : RdT (sumM T (prodM T (callM T (sm3 T n)))) k p t := by
  obtain ⟨nd, f', e, _, hr⟩ := h.2 T k n T.length hs hn hT hT (he.up (by omega))
  exact ⟨nd, e, by unfold sumM; rw [hr, sumF_stop he]⟩
theorem Rds.d54 {p : List Ky} {t : Nd} (h : Rds 5 p t) : Rds 4 p t := ⟨h.1, fun T k n f hs hn hT hf => by
  obtain ⟨nd, e, hr⟩ := h.2 T k n hs hn hT
  exact ⟨nd, f, e, by have := h.1.len; omega, by unfold bnd; rw [hr]⟩⟩
theorem Rds.d43 {p : List Ky} {t : Nd} (h : Rds 4 p t) : Rds 3 p t := ⟨h.1, fun T k n f hs hn hT hf he => by
  obtain ⟨nd, e, hr⟩ := h.call hs hn hT he
  exact ⟨nd, f, e, by have := h.1.len; omega, by unfold bnd; rw [hr]⟩⟩
theorem Rds.d32 {p : List Ky} {t : Nd} (h : Rds 3 p t) : Rds 2 p t := ⟨h.1, fun T k n f hs hn hT hf he => by
  obtain ⟨nd, e, hr⟩ := h.prod hs hn hT he
  exact ⟨nd, f, e, by have := h.1.len; omega, by unfold bnd; rw [hr]⟩⟩
theorem Rds.d21 {p : List Ky} {t : Nd} (h : Rds 2 p t) : Rds 1 p t := ⟨h.1, fun T k n hs hn hT he => by
  obtain ⟨nd, e, hr⟩ := h.sum hs hn hT (he.up (by omega))
  refine ⟨nd, e, ?_⟩
  unfold lessM bnd
  rw [hr]
  show (if _ then _ else _) = _
  rw [less_cls, if_neg (by unfold En at he; simp; omega)]⟩
theorem word_cls {t : Pu.Tok} (h : cls (keyT t) = 4) (l : List UInt8) (hl : cls (5, l) ≠ 4) : isT t ⟨l.toArray⟩ = false := by
  rw [isT_k]
  apply decide_eq_false
  intro q
  rw [q] at h
  exact hl h
theorem Rds.d10 {p : List Ky} {t : Nd} (h : Rds 1 p t) : Rds 0 p t := ⟨h.1.hd, fun T k n hs hn hT he => by
  have h1 := h.1.len
  obtain ⟨m, rfl⟩ : ∃ m, n = m + 1 := ⟨n - 1, by omega⟩
  have hc := h.1.at hs
  obtain ⟨nd, e, hr⟩ := h.2 T k m hs (by omega) hT he
  refine ⟨nd, e, ?_⟩
  unfold exprM
  rw [word_cls hc _ (by decide), word_cls hc _ (by decide), word_cls hc _ (by decide), word_cls hc _ (by decide)]
  exact hr⟩
theorem Rds.down {p : List Ky} {t : Nd} {v : Nat} (h : Rds v p t) (hv : v ≤ 5) : ∀ u, u ≤ v → Rds u p t := by
  intro u hu
  have s54 := @Rds.d54 p t
  have s43 := @Rds.d43 p t
  have s32 := @Rds.d32 p t
  have s21 := @Rds.d21 p t
  have s10 := @Rds.d10 p t
  match v, u, hv, hu, h with
  | 0, 0, _, _, h => exact h
  | 1, 0, _, _, h => exact s10 h
  | 1, 1, _, _, h => exact h
  | 2, 0, _, _, h => exact s10 (s21 h)
  | 2, 1, _, _, h => exact s21 h
  | 2, 2, _, _, h => exact h
  | 3, 0, _, _, h => exact s10 (s21 (s32 h))
  | 3, 1, _, _, h => exact s21 (s32 h)
  | 3, 2, _, _, h => exact s32 h
  | 3, 3, _, _, h => exact h
  | 4, 0, _, _, h => exact s10 (s21 (s32 (s43 h)))
  | 4, 1, _, _, h => exact s21 (s32 (s43 h))
  | 4, 2, _, _, h => exact s32 (s43 h)
  | 4, 3, _, _, h => exact s43 h
  | 4, 4, _, _, h => exact h
  | 5, 0, _, _, h => exact s10 (s21 (s32 (s43 (s54 h))))
  | 5, 1, _, _, h => exact s21 (s32 (s43 (s54 h)))
  | 5, 2, _, _, h => exact s32 (s43 (s54 h))
  | 5, 3, _, _, h => exact s43 (s54 h)
  | 5, 4, _, _, h => exact s54 h
  | 5, 5, _, _, h => exact h
/-- A part of one token. -/
def leafT (x : Ky) : Nd := .mk (if x.1 = 1 then 1 else if x.1 = 2 then 2 else if x.1 = 3 then 16 else if x.1 = 4 then 3 else if x = yTrue ∨ x = yFalse then 4 else 15) (if x.1 = 4 ∨ x = yAny then kNo else ⟨x.2.toArray⟩) (if x.1 = 4 then numB ⟨x.2.toArray⟩ else 0) [] 0 0 0
theorem leaf_es (t : Pu.Tok) (h : (keyT t).1 = 1 ∨ (keyT t).1 = 2 ∨ (keyT t).1 = 3 ∨ (keyT t).1 = 4 ∨ keyT t = yTrue ∨ keyT t = yFalse ∨ keyT t = yAny) : es (leafN t) = leafT (keyT t) := by
  have e0 : (⟨(keyT t).2.toArray⟩ : ByteArray) = t.text := toList_inj (by rw [toList_mk]; rfl)
  obtain ⟨k1, k2, k3, k16, k4, k15⟩ := leafK_key t
  have hkd : (keyT t).1 = t.kind := rfl
  unfold leafN leafT
  simp only [es, esL, e0]
  rcases h with h | h | h | h | h | h | h
  · have a : keyT t ≠ yAny := fun q => by rw [q] at h; simp at h
    have := k1.2 h
    simp [this, h, a, leafNum, show t.kind = 1 from h]
  · have a : keyT t ≠ yAny := fun q => by rw [q] at h; simp at h
    have := k2.2 h
    simp [this, h, a, leafNum, show t.kind = 2 from h]
  · have a : keyT t ≠ yAny := fun q => by rw [q] at h; simp at h
    have := k16.2 h
    simp [this, h, a, leafNum, show t.kind = 3 from h]
  · have := k3.2 h
    simp [this, h, leafNum, show t.kind = 4 from h]
  · have := k4.2 (Or.inl h)
    have h5 : t.kind = 5 := by rw [← hkd, h]
    simp [this, h, leafNum]
  · have := k4.2 (Or.inr h)
    have h5 : t.kind = 5 := by rw [← hkd, h]
    simp [this, h, leafNum]
  · have := k15.2 h
    have h5 : t.kind = 5 := by rw [← hkd, h]
    simp [this, h, leafNum]
theorem Rds.leaf {x : Ky} (h : x.1 = 1 ∨ x.1 = 2 ∨ x.1 = 4 ∨ x = yTrue ∨ x = yFalse) : Rds 5 [x] (leafT x) := by
  have hc : cls x = 4 := by unfold cls; rw [if_pos (Or.inr h)]
  refine ⟨⟨x, [], rfl, hc⟩, fun T k n hs _ _ => ⟨leafN (tk T k), ?_, ?_⟩⟩
  · rw [← hs.hd]
    rw [← hs.hd] at h
    exact leaf_es _ (by rcases h with h | h | h | h | h <;> simp [h])
  · show smallM T _ _ 3 k = _
    unfold smallM
    rw [beg_cls, hs.hd, decide_eq_true hc]
    have ho : isT (tk T k) kOpen = decide (keyT (tk T k) = yOpen) := isT_k
    rw [ho, hs.hd, decide_eq_false (by rintro rfl; simp at h)]
    rfl
end Go.Proofs.YteneoapickhpdaaGreatDoor
namespace Go.Proofs.YteneoapickhpdaaGreatDoor
open Go Go.RowKit
theorem want_ok {T : List Pu.Tok} {k : Nat} {l : List UInt8} (h : keyT (tk T k) = (5, l)) : wantM T ⟨l.toArray⟩ k = .ok ((), k + 1) := by
  unfold wantM; rw [isT_k, h, decide_eq_true rfl]; rfl
theorem name_ok {T : List Pu.Tok} {k n : Nat} {l : List UInt8} (h : keyT (tk T k) = (n, l)) : nameM T n k = .ok (tk T k, k + 1) ∧ (tk T k).text = ⟨l.toArray⟩ := by
  have h1 : (tk T k).kind = n := congrArg Prod.fst h
  refine ⟨by unfold nameM; rw [h1]; simp, toList_inj ?_⟩
  exact (congrArg Prod.snd h).trans (toList_mk l).symm
theorem is_no {T : List Pu.Tok} {k : Nat} {x : Ky} {l : List UInt8} (h : keyT (tk T k) = x) (hx : x ≠ (5, l)) : isT (tk T k) ⟨l.toArray⟩ = false := by
  rw [isT_k, h, decide_eq_false hx]
theorem is_yes {T : List Pu.Tok} {k : Nat} {l : List UInt8} (h : keyT (tk T k) = (5, l)) : isT (tk T k) ⟨l.toArray⟩ = true := by
  rw [isT_k, h, decide_eq_true rfl]
theorem en_at {T : List Pu.Tok} {v a b : Nat} (h : En v T a) (e : a = b) : En v T b := by rw [← e]; exact h
theorem en_key {T : List Pu.Tok} {k v : Nat} {x : Ky} (h : keyT (tk T k) = x) (hv : cls x < v) : En v T k := by unfold En; rw [h]; exact hv
mutual
def NoN : Nd → Prop
  | .mk k _ _ L _ _ _ => k ≠ 3 ∧ k ≠ 15 ∧ NoNL L
def NoNL : List Nd → Prop
  | [] => True
  | x :: l => NoN x ∧ NoNL l
end
mutual
theorem es_er : ∀ nd, NoN (er nd) → es nd = er nd
  | .mk k s n L f t a, h => by
    simp only [er, NoN] at h
    simp only [er, es, esL_er L h.2.2, if_neg (show ¬ (k = 3 ∨ k = 15) by omega), if_neg h.1]
theorem esL_er : ∀ L, NoNL (erL L) → esL L = erL L
  | [], _ => rfl
  | x :: l, h => by
    simp only [erL, NoNL] at h
    simp only [erL, esL, es_er x h.1, esL_er l h.2]
end
def tUnit : Nd := .mk 5 kNo 0 [] 0 0 0
def tPair (x y : Nd) : Nd := .mk 6 kNo 0 [x, y] 0 0 0
def tOf (x y : Nd) : Nd := .mk 14 kNo 0 [x, y] 0 0 0
def tCall (x y : Nd) : Nd := .mk 8 kNo 0 [x, y] 0 0 0
def tOp (l : List UInt8) (x y : Nd) : Nd := .mk 7 ⟨l.toArray⟩ 0 [x, y] 0 0 0
def tFn (s : ByteArray) (x : Nd) : Nd := .mk 9 s 0 [x] 0 0 0
def tLet (c : Nat) (s : ByteArray) (x y : Nd) : Nd := .mk c s 0 [x, y] 0 0 0
def tIf (x y z : Nd) : Nd := .mk 12 kNo 0 [x, y, z] 0 0 0
def tMt (x : Nd) (A : List (Nd × Nd)) : Nd := .mk 13 kNo 0 (x :: armN A) 0 0 0
abbrev yStar : Ky := (5, [42])
abbrev yLess : Ky := (5, [60])
abbrev yColon : Ky := (5, [58])
abbrev yEq : Ky := (5, [61])
abbrev yBar : Ky := (5, [124])
abbrev ySemi : Ky := (5, [59])
abbrev yFun : Ky := (5, [102, 117, 110])
abbrev yLet : Ky := (5, [108, 101, 116])
abbrev yRec : Ky := (5, [114, 101, 99])
abbrev yIn : Ky := (5, [105, 110])
abbrev yIf : Ky := (5, [105, 102])
abbrev yThen : Ky := (5, [116, 104, 101, 110])
abbrev yElse : Ky := (5, [101, 108, 115, 101])
abbrev yMatch : Ky := (5, [109, 97, 116, 99, 104])
abbrev yWith : Ky := (5, [119, 105, 116, 104])
abbrev yEnd : Ky := (5, [101, 110, 100])
abbrev yType : Ky := (5, [116, 121, 112, 101])
theorem bg_open (q : List Ky) : Bg (yOpen :: q) := ⟨yOpen, q, rfl, by decide⟩
section
variable {p q : List Ky} {x y z : Nd}
theorem Rds.unit : Rds 5 [yOpen, yClose] tUnit := by
  refine ⟨bg_open _, fun T k n hs _ _ => ⟨.mk 5 kNo 0 [] (tk T k).frm (lastK T (k + 1 + 1)) (tk T k).frm, rfl, ?_⟩⟩
  have h0 := hs.hd
  have h1 := hs.tl.hd
  show smallM T _ _ 3 k = _
  unfold smallM
  rw [beg_cls, h0, decide_eq_true (by decide), is_yes h0]
  unfold groupM
  rw [is_yes h1]
  rfl
theorem Rds.par (h : Rds 0 p x) : Rds 5 (yOpen :: (p ++ [yClose])) x := by
  refine ⟨bg_open _, fun T k n hs hn hT => ?_⟩
  simp only [List.length_cons, List.length_append, List.length_nil] at hn hT
  have h0 := hs.hd
  have hp := hs.tl.left
  have hc := hs.tl.right.hd
  obtain ⟨⟨c, r, rfl, hcl⟩, hr⟩ := h
  obtain ⟨nd, e, hr⟩ := hr T (k + 1) n hp (by omega) (by omega) (en_key hc (by decide))
  refine ⟨nd, e, ?_⟩
  show smallM T _ _ 3 k = _
  unfold smallM
  rw [beg_cls, h0, decide_eq_true (by decide), is_yes h0]
  unfold groupM
  rw [is_no hp.hd hcl]
  simp only [bnd, hr, restM, is_no hc (show yClose ≠ (5, [44]) by decide), is_no hc (show yClose ≠ (5, [58]) by decide), close_ok _ hc]
  simp [Nat.add_assoc, Nat.add_comm 1]
theorem Rds.pair (h : Rds 0 p x) (h' : Rds 0 q y) : Rds 5 (yOpen :: (p ++ (yComma :: (q ++ [yClose])))) (tPair x y) := by
  refine ⟨bg_open _, fun T k n hs hn hT => ?_⟩
  simp only [List.length_cons, List.length_append, List.length_nil] at hn hT
  have h0 := hs.hd
  have hp := hs.tl.left
  have hm := hs.tl.right.hd
  have hq := hs.tl.right.tl.left
  have hc := hs.tl.right.tl.right.hd
  obtain ⟨⟨c, r, rfl, hcl⟩, hr⟩ := h
  obtain ⟨nd, e, hr⟩ := hr T (k + 1) n hp (by omega) (by omega) (en_key hm (by decide))
  obtain ⟨nd2, e2, hr2⟩ := h'.2 T _ n hq (by omega) (by omega) (en_key hc (by decide))
  refine ⟨.mk 6 kNo 0 [nd, nd2] (tk T k).frm (lastK T (k + 1 + (c :: r).length + 1 + q.length + 1)) (tk T k).frm, by simp [es, esL, e, e2, tPair], ?_⟩
  show smallM T _ _ 3 k = _
  unfold smallM
  rw [beg_cls, h0, decide_eq_true (by decide), is_yes h0]
  unfold groupM
  rw [is_no hp.hd hcl]
  simp only [bnd, hr, restM, is_yes hm, hr2, close_ok _ hc]
  simp
  omega
theorem Rds.of {t : Nd} (h : Rds 0 p x) (h' : Gr 2 q t) (ht : NoN t) : Rds 5 (yOpen :: (p ++ (yColon :: (q ++ [yClose])))) (tOf x t) := by
  refine ⟨bg_open _, fun T k n hs hn hT => ?_⟩
  simp only [List.length_cons, List.length_append, List.length_nil] at hn hT
  have h0 := hs.hd
  have hp := hs.tl.left
  have hm := hs.tl.right.hd
  have hq := hs.tl.right.tl.left
  have hc := hs.tl.right.tl.right.hd
  obtain ⟨⟨c, r, rfl, hcl⟩, hr⟩ := h
  obtain ⟨nd, e, hr⟩ := hr T (k + 1) n hp (by omega) (by omega) (en_key hm (by decide))
  obtain ⟨nd2, e2, hr2⟩ := h'.reads T _ n hq (by omega) (by omega) (ends_sign hc (by decide) (by decide))
  have e3 := es_er nd2 (by rw [e2]; exact ht)
  refine ⟨.mk 14 kNo 0 [nd, nd2] (tk T k).frm (lastK T (k + 1 + (c :: r).length + 1 + q.length + 1)) (tk T k).frm, by simp [es, esL, e, e3, e2, tOf], ?_⟩
  show smallM T _ _ 3 k = _
  unfold smallM
  rw [beg_cls, h0, decide_eq_true (by decide), is_yes h0]
  unfold groupM
  rw [is_no hp.hd hcl]
  simp only [bnd, hr, restM, is_no hm (show yColon ≠ (5, [44]) by decide), is_yes hm, hr2, close_ok _ hc]
  simp
  omega
theorem Rds.app (h : Rds 4 p x) (h' : Rds 5 q y) : Rds 4 (p ++ q) (tCall x y) := by
  refine ⟨h.1.app q, fun T k n f hs hn hT hf => ?_⟩
  simp only [List.length_append] at hn hT hf
  have n2 := h'.1.len
  obtain ⟨nd, f', e, hff, hr⟩ := h.2 T k n f hs.left (by omega) (by omega) (by omega)
  obtain ⟨nd2, e2, hr2⟩ := h'.2 T (k + p.length) n hs.right (by omega) (by omega)
  obtain ⟨g, rfl⟩ : ∃ g, f' = g + 1 := ⟨f' - 1, by omega⟩
  refine ⟨.mk 8 kNo 0 [nd, nd2] (tk T k).frm (lastK T (k + p.length + q.length)) (tk T k).frm, g, by simp [es, esL, e, e2, tCall], by simp; omega, ?_⟩
  rw [hr]
  show (if _ then _ else _) = _
  rw [beg_cls, h'.1.at hs.right, if_pos (by decide)]
  unfold bnd
  rw [hr2]
  simp [Nat.add_assoc]
theorem Rds.mul (h : Rds 3 p x) (h' : Rds 4 q y) : Rds 3 (p ++ (yStar :: q)) (tOp [42] x y) := by
  refine ⟨h.1.app _, fun T k n f hs hn hT hf he => ?_⟩
  simp only [List.length_append, List.length_cons] at hn hT hf
  have n2 := h'.1.len
  have hm := hs.right.hd
  obtain ⟨nd, f', e, hff, hr⟩ := h.2 T k n f hs.left (by omega) (by omega) (by omega) (en_key hm (by decide))
  obtain ⟨nd2, e2, hr2⟩ := h'.call (n := n) hs.right.tl (by omega) (by omega) (en_at he (by simp <;> omega))
  obtain ⟨g, rfl⟩ : ∃ g, f' = g + 1 := ⟨f' - 1, by omega⟩
  refine ⟨.mk 7 kStar 0 [nd, nd2] (tk T k).frm (lastK T (k + p.length + 1 + q.length)) (tk T k).frm, g, by simp [es, esL, e, e2, tOp], by simp; omega, ?_⟩
  rw [hr]
  show (if _ then _ else _) = _
  rw [is_yes hm, if_pos rfl]
  unfold bnd
  rw [hr2]
  simp [Nat.add_assoc, Nat.add_comm 1]
theorem Rds.add {l : List UInt8} (hl : l = [43] ∨ l = [45]) (h : Rds 2 p x) (h' : Rds 3 q y) : Rds 2 (p ++ ((5, l) :: q)) (tOp l x y) := by
  refine ⟨h.1.app _, fun T k n f hs hn hT hf he => ?_⟩
  simp only [List.length_append, List.length_cons] at hn hT hf
  have n2 := h'.1.len
  have hm := hs.right.hd
  have hc : cls (5, l) = 2 := by rcases hl with rfl | rfl <;> decide
  obtain ⟨nd, f', e, hff, hr⟩ := h.2 T k n f hs.left (by omega) (by omega) (by omega) (en_key hm (by omega))
  obtain ⟨nd2, e2, hr2⟩ := h'.prod (n := n) hs.right.tl (by omega) (by omega) (en_at he (by simp <;> omega))
  obtain ⟨g, rfl⟩ : ∃ g, f' = g + 1 := ⟨f' - 1, by omega⟩
  have ht : (tk T (k + p.length)).text = ⟨l.toArray⟩ := (name_ok hm).2
  refine ⟨.mk 7 (tk T (k + p.length)).text 0 [nd, nd2] (tk T k).frm (lastK T (k + p.length + 1 + q.length)) (tk T k).frm, g, by rw [ht]; simp [es, esL, e, e2, tOp], by simp; omega, ?_⟩
  rw [hr]
  show (if _ then _ else _) = _
  rw [if_pos (by rw [pm_cls, hm]; exact hc)]
  unfold bnd
  rw [hr2]
  simp [Nat.add_assoc, Nat.add_comm 1]
theorem Rds.less (h : Rds 2 p x) (h' : Rds 2 q y) : Rds 1 (p ++ (yLess :: q)) (tOp [60] x y) := by
  refine ⟨h.1.app _, fun T k n hs hn hT he => ?_⟩
  simp only [List.length_append, List.length_cons] at hn hT
  have hm := hs.right.hd
  obtain ⟨nd, e, hr⟩ := h.sum (n := n) hs.left (by omega) (by omega) (en_key hm (by decide))
  obtain ⟨nd2, e2, hr2⟩ := h'.sum (n := n) hs.right.tl (by omega) (by omega) (en_at (he.up (by omega)) (by simp <;> omega))
  refine ⟨.mk 7 kLess 0 [nd, nd2] (tk T k).frm (lastK T (k + p.length + 1 + q.length)) (tk T k).frm, by simp [es, esL, e, e2, tOp], ?_⟩
  unfold lessM bnd
  rw [hr]
  show (if _ then _ else _) = _
  rw [is_yes hm, if_pos rfl, hr2]
  simp [Nat.add_assoc, Nat.add_comm 1]
/-- A function, read as such. -/
def RdF (p : List Ky) (t : Nd) : Prop := ∃ q s x, p = yFun :: (1, s) :: yArrow :: q ∧ t = tFn ⟨s.toArray⟩ x ∧ Rds 0 q x
theorem RdF.reads {t : Nd} (h : RdF p t) {T : List Pu.Tok} {k n : Nat} (hs : Sits T k p) (hn : p.length ≤ n + 1) (hT : p.length ≤ T.length + 1) (he : En 1 T (k + p.length)) : RdT (funM T (exprM T n)) k p t := by
  obtain ⟨q, s, x, rfl, rfl, h⟩ := h
  simp only [List.length_cons] at hn hT
  have h0 := hs.hd
  have h1 := hs.tl.hd
  have h2 := hs.tl.tl.hd
  obtain ⟨nd, e, hr⟩ := h.2 T _ n hs.tl.tl.tl (by omega) (by omega) (en_at he (by simp <;> omega))
  obtain ⟨g1, g2⟩ := name_ok h1
  refine ⟨.mk 9 (tk T (k + 1)).text 0 [nd] (tk T k).frm (lastK T (k + 1 + 1 + 1 + q.length)) (tk T (k + 1)).frm, by rw [g2]; simp [es, esL, e, tFn], ?_⟩
  unfold funM
  simp only [bnd, want_ok h0, g1, want_ok h2, hr]
  simp
  omega
theorem RdF.rds {t : Nd} (h : RdF p t) : Rds 0 p t := by
  have h' := h
  obtain ⟨q, s, x, rfl, rfl, _⟩ := h'
  refine ⟨⟨_, _, rfl, by decide⟩, fun T k n hs hn hT he => ?_⟩
  simp only [List.length_cons] at hn
  obtain ⟨m, rfl⟩ : ∃ m, n = m + 1 := ⟨n - 1, by omega⟩
  have h0 := hs.hd
  obtain ⟨nd, e, hr⟩ := h.reads (n := m) hs (by simp; omega) hT he
  refine ⟨nd, e, ?_⟩
  unfold exprM
  rw [is_yes h0, if_pos rfl]
  exact hr
/-- What `let` binds. -/
def RdB (p : List Ky) (c : Nat) (s : List UInt8) (t : Nd) : Prop := ∃ q, (c = 10 ∧ p = yLet :: (1, s) :: yEq :: q ∧ Rds 0 q t) ∨ (c = 11 ∧ p = yLet :: yRec :: (1, s) :: yEq :: q ∧ RdF q t)
theorem RdB.reads {c : Nat} {s : List UInt8} {t : Nd} (h : RdB p c s t) {T : List Pu.Tok} {k n : Nat} (hs : Sits T k p) (hn : p.length ≤ n + 1) (hT : p.length ≤ T.length + 1) (he : En 1 T (k + p.length)) : ∃ tok nd, es nd = t ∧ tok.text = ⟨s.toArray⟩ ∧ boundM T (exprM T n) k = .ok ((c, tok, nd), k + p.length) := by
  obtain ⟨q, ⟨rfl, rfl, h⟩ | ⟨rfl, rfl, h⟩⟩ := h
  · simp only [List.length_cons] at hn hT
    have h0 := hs.hd
    have h1 := hs.tl.hd
    have h2 := hs.tl.tl.hd
    obtain ⟨nd, e, hr⟩ := h.2 T _ n hs.tl.tl.tl (by omega) (by omega) (en_at he (by simp <;> omega))
    obtain ⟨g1, g2⟩ := name_ok h1
    refine ⟨tk T (k + 1), nd, e, g2, ?_⟩
    unfold boundM
    simp only [bnd, want_ok h0, is_no h1 (show ((1, s) : Ky) ≠ (5, [114, 101, 99]) by simp), g1, want_ok h2, hr]
    simp
    omega
  · simp only [List.length_cons] at hn hT
    have h0 := hs.hd
    have h1 := hs.tl.hd
    have h2 := hs.tl.tl.hd
    have h3 := hs.tl.tl.tl.hd
    obtain ⟨nd, e, hr⟩ := h.reads (n := n) hs.tl.tl.tl.tl (by omega) (by omega) (en_at he (by simp <;> omega))
    obtain ⟨g1, g2⟩ := name_ok h2
    refine ⟨tk T (k + 1 + 1), nd, e, g2, ?_⟩
    unfold boundM
    simp only [bnd, want_ok h0, is_yes h1, g1, want_ok h3, hr]
    simp
    omega
theorem RdB.hd {c : Nat} {s : List UInt8} {t : Nd} (h : RdB p c s t) : ∃ r, p = yLet :: r ∧ 2 ≤ r.length := by
  obtain ⟨q, ⟨_, rfl, h⟩ | ⟨_, rfl, h⟩⟩ := h
  · exact ⟨_, rfl, by simp⟩
  · exact ⟨_, rfl, by simp⟩
theorem Rds.lt {c : Nat} {s : List UInt8} (h : RdB p c s x) (h' : Rds 0 q y) (hc : c = 10 ∨ c = 11) : Rds 0 (p ++ (yIn :: q)) (tLet c ⟨s.toArray⟩ x y) := by
  obtain ⟨r, hr0, hr1⟩ := h.hd
  refine ⟨⟨yLet, r ++ (yIn :: q), by rw [hr0]; rfl, by decide⟩, fun T k n hs hn hT he => ?_⟩
  simp only [List.length_append, List.length_cons] at hn hT
  obtain ⟨m, rfl⟩ : ∃ m, n = m + 1 := ⟨n - 1, by omega⟩
  have hm := hs.right.hd
  obtain ⟨tok, nd, e, g, hr⟩ := h.reads (n := m) hs.left (by omega) (by omega) (en_key hm (by decide))
  obtain ⟨nd2, e2, hr2⟩ := h'.2 T _ m hs.right.tl (by omega) (by omega) (en_at he (by simp <;> omega))
  have h0 : keyT (tk T k) = yLet := by have := hs.left; rw [hr0] at this; exact this.hd
  refine ⟨.mk c tok.text 0 [nd, nd2] (tk T k).frm (lastK T (k + p.length + 1 + q.length)) tok.frm, ?_, ?_⟩
  · rw [g]; rcases hc with rfl | rfl <;> simp [es, esL, e, e2, tLet]
  · unfold exprM
    rw [is_no h0 (by decide), is_no h0 (by decide), is_no h0 (by decide), is_yes h0]
    show letM T (exprM T m) k = _
    unfold letM
    simp only [bnd, hr, want_ok hm, hr2]
    simp
    omega
theorem Rds.ite {r : List Ky} (h : Rds 0 p x) (h' : Rds 0 q y) (h'' : Rds 0 r z) : Rds 0 (yIf :: (p ++ (yThen :: (q ++ (yElse :: r))))) (tIf x y z) := by
  refine ⟨⟨_, _, rfl, by decide⟩, fun T k n hs hn hT he => ?_⟩
  simp only [List.length_append, List.length_cons] at hn hT
  obtain ⟨m, rfl⟩ : ∃ m, n = m + 1 := ⟨n - 1, by omega⟩
  have h0 := hs.hd
  have hp := hs.tl.left
  have h1 := hs.tl.right.hd
  have hq := hs.tl.right.tl.left
  have h2 := hs.tl.right.tl.right.hd
  have hr' := hs.tl.right.tl.right.tl
  obtain ⟨nd, e, hr⟩ := h.2 T _ m hp (by omega) (by omega) (en_key h1 (by decide))
  obtain ⟨nd2, e2, hr2⟩ := h'.2 T _ m hq (by omega) (by omega) (en_key h2 (by decide))
  obtain ⟨nd3, e3, hr3⟩ := h''.2 T _ m hr' (by omega) (by omega) (by
    have : k + 1 + p.length + 1 + q.length + 1 + r.length = k + (yIf :: (p ++ (yThen :: (q ++ (yElse :: r))))).length := by simp; omega
    rw [this]; exact he)
  refine ⟨.mk 12 kNo 0 [nd, nd2, nd3] (tk T k).frm (lastK T (k + 1 + p.length + 1 + q.length + 1 + r.length)) (tk T k).frm, by simp [es, esL, e, e2, e3, tIf], ?_⟩
  unfold exprM
  rw [is_no h0 (by decide), is_yes h0]
  show choiceM T (exprM T m) k = _
  unfold choiceM
  simp only [bnd, want_ok h0, hr, want_ok h1, hr2, want_ok h2, hr3]
  simp
  omega
end
end Go.Proofs.YteneoapickhpdaaGreatDoor
namespace Go.Proofs.YteneoapickhpdaaGreatDoor
open Go Go.RowKit
/-- What begins a small pattern. -/
def pcl (x : Ky) : Bool := decide (x = yOpen ∨ x = yAny ∨ x.1 = 1 ∨ x.1 = 2 ∨ x.1 = 4 ∨ x = yTrue ∨ x = yFalse)
theorem beg_pcl (t : Pu.Tok) : beginsB t 2 = pcl (keyT t) := by
  have ho : isT t kOpen = decide (keyT t = yOpen) := isT_k
  obtain ⟨k1, k2, k3, _, k4, k15⟩ := leafK_key t
  have e0 : (leafK t == 15) = decide (keyT t = yAny) := by rw [beq_dec, decide_eq_decide]; exact k15
  have e1 : (leafK t == 1) = decide ((keyT t).1 = 1) := by rw [beq_dec, decide_eq_decide]; exact k1
  have e2 : (leafK t == 2) = decide ((keyT t).1 = 2) := by rw [beq_dec, decide_eq_decide]; exact k2
  have e3 : (leafK t == 3) = decide ((keyT t).1 = 4) := by rw [beq_dec, decide_eq_decide]; exact k3
  have e4 : (leafK t == 4) = decide (keyT t = yTrue ∨ keyT t = yFalse) := by rw [beq_dec, decide_eq_decide]; exact k4
  unfold beginsB pcl
  rw [if_neg (by decide), if_pos rfl, ho, e0, e1, e2, e3, e4]
  by_cases a1 : keyT t = yOpen
  · simp [a1]
  by_cases a2 : keyT t = yAny
  · simp [a2]
  by_cases a3 : (keyT t).1 = 1
  · simp [a3]
  by_cases a4 : (keyT t).1 = 2
  · simp [a4]
  by_cases a5 : (keyT t).1 = 4
  · simp [a5]
  by_cases a6 : keyT t = yTrue
  · simp [a6]
  by_cases a7 : keyT t = yFalse
  · simp [a7]
  simp [a1, a2, a3, a4, a5, a6, a7]
def tUp (s : ByteArray) (L : List Nd) : Nd := .mk 2 s 0 L 0 0 0
def Pg (p : List Ky) : Prop := ∃ x r, p = x :: r ∧ pcl x = true
theorem Pg.len {p : List Ky} (h : Pg p) : 1 ≤ p.length := by obtain ⟨x, r, rfl, _⟩ := h; simp
theorem Pg.at {p : List Ky} (h : Pg p) {T : List Pu.Tok} {k : Nat} (hs : Sits T k p) : pcl (keyT (tk T k)) = true := by obtain ⟨x, r, rfl, h⟩ := h; rw [hs.hd]; exact h
theorem Pg.hd {p : List Ky} (h : Pg p) : Hd p := by obtain ⟨x, r, rfl, h⟩ := h; exact ⟨x, r, rfl, by rintro rfl; revert h; decide⟩
/-- What is read as a pattern: 5 a small one, 4 a name with parts, else any. -/
def RdQ (v : Nat) (p : List Ky) (t : Nd) : Prop := match v with
  | 5 => Pg p ∧ ∀ T k n, Sits T k p → p.length ≤ n + 1 → p.length ≤ T.length + 1 → RdT (sm2 T n) k p t
  | 4 => (∃ s r, p = (2, s) :: r) ∧ ∀ T k n f, Sits T k p → p.length ≤ n + 1 → p.length ≤ T.length + 1 → p.length ≤ f + 1 → ∃ nd f', es nd = t ∧ f + 1 ≤ f' + p.length ∧ bnd (sm2 T n) (headF T (sm2 T n) 2 f) k = headF T (sm2 T n) 2 f' nd (k + p.length)
  | _ => Hd p ∧ ∀ T k n, Sits T k p → p.length ≤ n → p.length ≤ T.length + 1 → pcl (keyT (tk T (k + p.length))) = false → RdT (patM T n) k p t
theorem headF_stop2 {T : List Pu.Tok} {sm : M Nd} {f k : Nat} {x : Nd} (h : pcl (keyT (tk T k)) = false) : headF T sm 2 f x k = .ok (x, k) := by
  cases f with
  | zero => rfl
  | succ f => unfold headF; rw [beg_pcl, h]; rfl
section
variable {p q : List Ky} {x y z : Nd}
theorem RdQ.d40 (h : RdQ 4 p x) : RdQ 0 p x := by
  obtain ⟨⟨s, r, rfl⟩, h⟩ := h
  refine ⟨⟨_, _, rfl, by simp⟩, fun T k n hs hn hT he => ?_⟩
  obtain ⟨m, rfl⟩ : ∃ m, n = m + 1 := ⟨n - 1, by simp at hn; omega⟩
  obtain ⟨nd, f', e, _, hr⟩ := h T k m T.length hs hn hT hT
  refine ⟨nd, e, ?_⟩
  unfold patM headM
  have hk : (tk T k).kind = 2 := congrArg Prod.fst hs.hd
  rw [hk]
  show bnd (sm2 T m) (headF T (sm2 T m) 2 T.length) k = _
  rw [hr, headF_stop2 he]
theorem RdQ.d50 (h : RdQ 5 p x) : RdQ 0 p x := by
  refine ⟨h.1.hd, fun T k n hs hn hT he => ?_⟩
  have h1 := h.1.len
  obtain ⟨m, rfl⟩ : ∃ m, n = m + 1 := ⟨n - 1, by omega⟩
  obtain ⟨nd, e, hr⟩ := h.2 T k m hs hn hT
  refine ⟨nd, e, ?_⟩
  unfold patM headM
  split
  · show bnd (sm2 T m) _ k = _
    unfold bnd
    rw [hr]
    exact headF_stop2 he
  · exact hr
theorem RdQ.leaf {x : Ky} (h : x.1 = 1 ∨ x.1 = 2 ∨ x.1 = 4 ∨ x = yTrue ∨ x = yFalse ∨ x = yAny) : RdQ 5 [x] (leafT x) := by
  have hc : pcl x = true := by unfold pcl; apply decide_eq_true; rcases h with h | h | h | h | h | h <;> simp [h]
  refine ⟨⟨x, [], rfl, hc⟩, fun T k n hs _ _ => ⟨leafN (tk T k), ?_, ?_⟩⟩
  · rw [← hs.hd]
    rw [← hs.hd] at h
    exact leaf_es _ (by rcases h with h | h | h | h | h | h <;> simp [h])
  · show smallM T _ _ 2 k = _
    unfold smallM
    rw [beg_pcl, hs.hd, hc]
    have ho : isT (tk T k) kOpen = decide (keyT (tk T k) = yOpen) := isT_k
    rw [ho, hs.hd, decide_eq_false (by rintro rfl; simp at h)]
    rfl
theorem leafT_up (s : List UInt8) : leafT (2, s) = tUp ⟨s.toArray⟩ [] := by simp [leafT, tUp]
theorem RdQ.up (s : List UInt8) : RdQ 4 [(2, s)] (tUp ⟨s.toArray⟩ []) := by
  refine ⟨⟨s, [], rfl⟩, fun T k n f hs hn hT hf => ?_⟩
  obtain ⟨nd, e, hr⟩ := (RdQ.leaf (x := (2, s)) (by simp)).2 T k n hs hn hT
  exact ⟨nd, f, by rw [e, leafT_up], by simp, by unfold bnd; rw [hr]⟩
theorem es_add (a b : Nd) (u : Nat) (s : ByteArray) (L : List Nd) (h : es a = tUp s L) : es (a.add b u) = tUp s (L ++ [es b]) := by
  obtain ⟨k, s', n, L', f, t, a⟩ := a
  simp only [es, tUp, Nd.mk.injEq] at h
  obtain ⟨rfl, h1, _, rfl, _⟩ := h
  simp at h1
  subst h1
  simp [Nd.add, es, esL_app, esL, tUp]
theorem RdQ.arg {s : ByteArray} {L : List Nd} (h : RdQ 4 p (tUp s L)) (h' : RdQ 5 q y) : RdQ 4 (p ++ q) (tUp s (L ++ [y])) := by
  obtain ⟨⟨s0, r, rfl⟩, h⟩ := h
  refine ⟨⟨s0, r ++ q, rfl⟩, fun T k n f hs hn hT hf => ?_⟩
  simp only [List.length_append] at hn hT hf
  have n2 := h'.1.len
  obtain ⟨nd, f', e, hff, hr⟩ := h T k n f hs.left (by omega) (by omega) (by omega)
  obtain ⟨nd2, e2, hr2⟩ := h'.2 T _ n hs.right (by omega) (by omega)
  obtain ⟨g, rfl⟩ : ∃ g, f' = g + 1 := ⟨f' - 1, by omega⟩
  refine ⟨nd.add nd2 (lastK T (k + ((2, s0) :: r).length + q.length)), g, by rw [es_add _ _ _ s L e, e2], by simp only [List.length_append]; omega, ?_⟩
  rw [hr]
  show (if _ then _ else _) = _
  rw [beg_pcl, h'.1.at hs.right, if_pos rfl]
  unfold bnd
  rw [hr2, List.length_append, ← Nat.add_assoc]
theorem RdQ.unit : RdQ 5 [yOpen, yClose] tUnit := by
  refine ⟨⟨_, _, rfl, by decide⟩, fun T k n hs _ _ => ⟨.mk 5 kNo 0 [] (tk T k).frm (lastK T (k + 1 + 1)) (tk T k).frm, rfl, ?_⟩⟩
  have h0 := hs.hd
  have h1 := hs.tl.hd
  show smallM T _ _ 2 k = _
  unfold smallM
  rw [beg_pcl, h0, is_yes h0]
  show groupM T _ _ 2 _ (k + 1) = _
  unfold groupM
  rw [is_yes h1]
  rfl
theorem RdQ.par (h : RdQ 0 p x) : RdQ 5 (yOpen :: (p ++ [yClose])) x := by
  refine ⟨⟨_, _, rfl, by decide⟩, fun T k n hs hn hT => ?_⟩
  simp only [List.length_cons, List.length_append, List.length_nil] at hn hT
  have h0 := hs.hd
  have hp := hs.tl.left
  have hc := hs.tl.right.hd
  obtain ⟨⟨c, r, rfl, hcl⟩, hr⟩ := h
  obtain ⟨nd, e, hr⟩ := hr T (k + 1) n hp (by omega) (by omega) (by rw [hc]; decide)
  refine ⟨nd, e, ?_⟩
  show smallM T _ _ 2 k = _
  unfold smallM
  rw [beg_pcl, h0, is_yes h0]
  show groupM T _ _ 2 _ (k + 1) = _
  unfold groupM
  rw [is_no hp.hd hcl]
  simp only [bnd, hr, restM, is_no hc (show yClose ≠ (5, [44]) by decide), is_no hc (show yClose ≠ (5, [58]) by decide), close_ok _ hc]
  simp [Nat.add_assoc, Nat.add_comm 1]
theorem RdQ.pair (h : RdQ 0 p x) (h' : RdQ 0 q y) : RdQ 5 (yOpen :: (p ++ (yComma :: (q ++ [yClose])))) (tPair x y) := by
  refine ⟨⟨_, _, rfl, by decide⟩, fun T k n hs hn hT => ?_⟩
  simp only [List.length_cons, List.length_append, List.length_nil] at hn hT
  have h0 := hs.hd
  have hp := hs.tl.left
  have hm := hs.tl.right.hd
  have hq := hs.tl.right.tl.left
  have hc := hs.tl.right.tl.right.hd
  obtain ⟨⟨c, r, rfl, hcl⟩, hr⟩ := h
  obtain ⟨nd, e, hr⟩ := hr T (k + 1) n hp (by omega) (by omega) (by rw [hm]; decide)
  obtain ⟨nd2, e2, hr2⟩ := h'.2 T _ n hq (by omega) (by omega) (by rw [hc]; decide)
  refine ⟨.mk 6 kNo 0 [nd, nd2] (tk T k).frm (lastK T (k + 1 + (c :: r).length + 1 + q.length + 1)) (tk T k).frm, by simp [es, esL, e, e2, tPair], ?_⟩
  show smallM T _ _ 2 k = _
  unfold smallM
  rw [beg_pcl, h0, is_yes h0]
  show groupM T _ _ 2 _ (k + 1) = _
  unfold groupM
  rw [is_no hp.hd hcl]
  simp only [bnd, hr, restM, is_yes hm, hr2, close_ok _ hc]
  simp
  omega
/-- The arms of a match. -/
inductive RdA : List Ky → List (Nd × Nd) → Prop where
  | one {p r : List Ky} {x y : Nd} : RdQ 0 p x → Rds 0 r y → RdA (p ++ (yArrow :: r)) [(x, y)]
  | cons {p r q : List Ky} {x y : Nd} {A : List (Nd × Nd)} : RdQ 0 p x → Rds 0 r y → RdA q A → RdA (p ++ (yArrow :: (r ++ (yBar :: q)))) ((x, y) :: A)
def esA (A : List (Nd × Nd)) : List (Nd × Nd) := A.map fun p => (es p.1, es p.2)
theorem esL_arm : ∀ A, esL (armN A) = armN (esA A)
  | [] => rfl
  | p :: A => by simp [armN, esL, esA]; exact esL_arm A
theorem RdA.reads {A : List (Nd × Nd)} (h : RdA q A) : ∀ (T : List Pu.Tok) (k n f : Nat) (l : List Nd), Sits T k q → q.length ≤ n → q.length ≤ T.length + 1 → q.length ≤ f → keyT (tk T (k + q.length)) = yEnd → ∃ B, esA B = A ∧ armsF T (patM T n) (exprM T n) f l k = .ok (l ++ armN B, k + q.length) := by
  induction h with
  | @one p r x y hp hr =>
    intro T k n f l hs hn hT hf he
    simp only [List.length_append, List.length_cons] at hn hT hf he
    have hm := hs.right.hd
    obtain ⟨f, rfl⟩ : ∃ g, f = g + 1 := ⟨f - 1, by omega⟩
    obtain ⟨nd, e, h1⟩ := hp.2 T k n hs.left (by omega) (by omega) (by rw [hm]; decide)
    obtain ⟨nd2, e2, h2⟩ := hr.2 T _ n hs.right.tl (by omega) (by omega) (en_key (by rw [← he]; congr 2; omega) (show cls yEnd < 1 by decide))
    refine ⟨[(nd, nd2)], by simp [esA, e, e2], ?_⟩
    have hb : isT (tk T (k + p.length + 1 + r.length)) kBar = false := is_no (by rw [← he]; congr 2; omega) (show yEnd ≠ (5, [124]) by decide)
    unfold armsF
    simp only [bnd, h1, want_ok hm, h2, hb]
    simp [armN]
    omega
  | @cons p r q x y A hp hr hA ih =>
    intro T k n f l hs hn hT hf he
    simp only [List.length_append, List.length_cons] at hn hT hf he
    have hm := hs.right.hd
    have hr' := hs.right.tl.left
    have hb := hs.right.tl.right.hd
    have hq := hs.right.tl.right.tl
    obtain ⟨f, rfl⟩ : ∃ g, f = g + 1 := ⟨f - 1, by omega⟩
    obtain ⟨nd, e, h1⟩ := hp.2 T k n hs.left (by omega) (by omega) (by rw [hm]; decide)
    obtain ⟨nd2, e2, h2⟩ := hr.2 T _ n hr' (by omega) (by omega) (en_key hb (by decide))
    obtain ⟨B, e3, h3⟩ := ih T _ n f (l ++ [nd, nd2]) hq (by omega) (by omega) (by omega) (by rw [← he]; congr 2; omega)
    refine ⟨(nd, nd2) :: B, by simp [esA, e, e2]; exact e3, ?_⟩
    unfold armsF
    simp only [bnd, h1, want_ok hm, h2, is_yes hb, h3]
    simp [armN]
    omega
theorem RdA.len {A : List (Nd × Nd)} (h : RdA q A) : 1 ≤ q.length := by cases h <;> simp <;> omega
theorem Rds.mt {A : List (Nd × Nd)} (h : Rds 0 p x) (h' : RdA q A) : Rds 0 (yMatch :: (p ++ (yWith :: (q ++ [yEnd])))) (tMt x A) := by
  refine ⟨⟨_, _, rfl, by decide⟩, fun T k n hs hn hT he => ?_⟩
  simp only [List.length_append, List.length_cons, List.length_nil] at hn hT
  obtain ⟨m, rfl⟩ : ∃ m, n = m + 1 := ⟨n - 1, by omega⟩
  have h0 := hs.hd
  have hp := hs.tl.left
  have h1 := hs.tl.right.hd
  have hq := hs.tl.right.tl.left
  have h2 := hs.tl.right.tl.right.hd
  obtain ⟨nd, e, hr⟩ := h.2 T _ m hp (by omega) (by omega) (en_key h1 (by decide))
  obtain ⟨B, e2, hr2⟩ := h'.reads T _ m T.length [nd] hq (by omega) (by omega) (by omega) h2
  refine ⟨.mk 13 kNo 0 (nd :: armN B) (tk T k).frm (lastK T (k + 1 + p.length + 1 + q.length + 1)) (tk T k).frm, by simp [es, esL, e, esL_arm, e2, tMt], ?_⟩
  unfold exprM
  rw [is_no h0 (by decide), is_no h0 (by decide), is_yes h0]
  show matchM T (patM T m) (exprM T m) k = _
  unfold matchM
  simp only [bnd, want_ok h0, hr, want_ok h1, hr2, want_ok h2]
  simp
  omega
end
/-- What is read as a declaration that is shown so. -/
def RdD (p : List Ky) (S : List UInt8) : Prop := (∃ x r, p = x :: r ∧ (x = yType ∨ x = yLet)) ∧ ∀ T k n, Sits T k p → p.length ≤ n → p.length ≤ T.length + 1 → ∃ d, dcS d = S ∧ declM T n k = .ok (d, k + p.length)
theorem RdD.lt {p : List Ky} {c : Nat} {s : List UInt8} {t : Nd} (h : RdB p c s t) : RdD (p ++ [ySemi]) (letS (c == 11) s (sh t)) := by
  obtain ⟨r, hr0, hr1⟩ := h.hd
  refine ⟨⟨yLet, r ++ [ySemi], by rw [hr0]; rfl, Or.inr rfl⟩, fun T k n hs hn hT => ?_⟩
  simp only [List.length_append, List.length_cons, List.length_nil] at hn hT
  have hm := hs.right.hd
  obtain ⟨tok, nd, e, g, hr⟩ := h.reads (n := n) hs.left (by omega) (by omega) (en_key hm (by decide))
  have h0 : keyT (tk T k) = yLet := by have := hs.left; rw [hr0] at this; exact this.hd
  refine ⟨.lt (c == 11) tok nd, by simp only [dcS, g, toList_mk]; rw [← e, sh_es], ?_⟩
  unfold declM
  rw [is_no h0 (by decide)]
  show letDM T (exprM T n) k = _
  unfold letDM
  simp only [bnd, hr, want_ok hm]
  simp
  omega
theorem vars_read (vs : List (List UInt8)) : ∀ (T : List Pu.Tok) (k f : Nat) (l : List Pu.Tok), Sits T k (vs.map fun v => ((3, v) : Ky)) → vs.length ≤ f → (tk T (k + vs.length)).kind ≠ 3 → ∃ V, V.map (fun t => t.text.toList) = vs ∧ varsF T f l k = .ok (l ++ V, k + vs.length) := by
  induction vs with
  | nil =>
    intro T k f l hs hf he
    refine ⟨[], rfl, ?_⟩
    cases f with
    | zero => simp [varsF]
    | succ f => simp at he; simp [varsF, he]
  | cons v vs ih =>
    intro T k f l hs hf he
    simp only [List.length_cons] at hf he
    obtain ⟨f, rfl⟩ : ∃ g, f = g + 1 := ⟨f - 1, by omega⟩
    have h0 : keyT (tk T k) = (3, v) := hs.hd
    obtain ⟨V, e, hr⟩ := ih T (k + 1) f (l ++ [tk T k]) hs.tl (by omega) (by rw [show k + 1 + vs.length = k + (vs.length + 1) by omega]; exact he)
    refine ⟨tk T k :: V, by simp [e]; exact congrArg Prod.snd h0, ?_⟩
    have hk : (tk T k).kind = 3 := congrArg Prod.fst h0
    unfold varsF
    rw [if_pos hk, hr]
    simp
    omega
/-- The makers of a type. -/
inductive RdK : List Ky → List Nd → Prop where
  | one {p : List Ky} {t : Nd} : Gr 3 p t → NoN t → RdK p [t]
  | cons {p q : List Ky} {t : Nd} {M : List Nd} : Gr 3 p t → NoN t → RdK q M → RdK (p ++ (yBar :: q)) (t :: M)
theorem maker_read {p : List Ky} {t : Nd} (h : Gr 3 p t) (ht : NoN t) {T : List Pu.Tok} {k n : Nat} (hs : Sits T k p) (hn : p.length ≤ n + 1) (hT : p.length ≤ T.length + 1) (he : Ends1 T (k + p.length)) : RdT (makerM T (smallM T (typM T n) (typM T n) 1)) k p t := by
  obtain ⟨nd, f', e, _, hr⟩ := h.reads T k n T.length hs hn hT hT
  refine ⟨nd, by rw [es_er nd (by rw [e]; exact ht), e], ?_⟩
  rw [headF_stopJ he] at hr
  rw [← hr]
  obtain ⟨s, r, rfl⟩ := h.first
  have h0 := hs.hd
  have hk : (tk T k).kind = 2 := congrArg Prod.fst h0
  obtain ⟨g1, g2⟩ := name_ok h0
  unfold makerM
  have hl : leafN (tk T k) = .mk 2 (tk T k).text 0 [] (tk T k).frm (lastK T (k + 1)) (tk T k).frm := by
    unfold leafN lastK
    simp [leafK, hk, leafNum]
  have hsm : smallM T (typM T n) (typM T n) 1 k = .ok (leafN (tk T k), k + 1) := by
    unfold smallM
    rw [begins_key, isT_key, h0]
    simp
  unfold bnd
  rw [g1, hsm, hl]
theorem RdK.reads {q : List Ky} {M : List Nd} (h : RdK q M) : ∀ (T : List Pu.Tok) (k n f : Nat) (l : List Nd), Sits T k q → q.length ≤ n → q.length ≤ T.length + 1 → q.length ≤ f → keyT (tk T (k + q.length)) = ySemi → ∃ B, B.map es = M ∧ makersF T (makerM T (smallM T (typM T n) (typM T n) 1)) f l k = .ok (l ++ B, k + q.length) := by
  induction h with
  | @one p t hp ht =>
    intro T k n f l hs hn hT hf he
    have := hp.ne
    obtain ⟨f, rfl⟩ : ∃ g, f = g + 1 := ⟨f - 1, by omega⟩
    obtain ⟨nd, e, h1⟩ := maker_read hp ht (n := n) hs (by omega) (by omega) (ends_sign he (by decide) (by decide)).1
    refine ⟨[nd], by simp [e], ?_⟩
    rw [makers_go]
    simp only [bnd, h1, restMk, is_no he (show ySemi ≠ (5, [124]) by decide)]
    rfl
  | @cons p q t M hp ht hq ih =>
    intro T k n f l hs hn hT hf he
    simp only [List.length_append, List.length_cons] at hn hT hf he
    have := hp.ne
    obtain ⟨f, rfl⟩ : ∃ g, f = g + 1 := ⟨f - 1, by omega⟩
    have hb := hs.right.hd
    obtain ⟨nd, e, h1⟩ := maker_read hp ht (n := n) hs.left (by omega) (by omega) (ends_sign hb (by decide) (by decide)).1
    obtain ⟨B, e3, h3⟩ := ih T _ n f (l ++ [nd]) hs.right.tl (by omega) (by omega) (by omega) (by rw [← he]; congr 2; omega)
    refine ⟨nd :: B, by simp [e, e3], ?_⟩
    rw [makers_go]
    simp only [bnd, h1, restMk, is_yes hb, if_true, h3]
    simp
    omega
theorem mksW_es : ∀ (B : List Nd) (b : Bool), mksW b (B.map es) = mksW b B
  | [], b => rfl
  | x :: B, b => by simp [mksW, sh_es, mksW_es B]
theorem vsW_text (V : List Pu.Tok) : vsW V = (V.map fun t => t.text.toList).flatMap fun v => [32] ++ v := by
  unfold vsW; rw [List.flatMap_map]
theorem RdK.len {q : List Ky} {M : List Nd} (h : RdK q M) : 1 ≤ q.length := by
  cases h with
  | one h _ => exact h.ne
  | cons h _ _ => simp; omega
theorem RdD.ty {q : List Ky} {M : List Nd} (s : List UInt8) (vs : List (List UInt8)) (h : RdK q M) : RdD (yType :: (2, s) :: ((vs.map fun v => ((3, v) : Ky)) ++ (yEq :: (q ++ [ySemi])))) ([116, 121, 112, 101] ++ (([32] ++ s) ++ ((vs.flatMap fun v => [32] ++ v) ++ mksW true M))) := by
  refine ⟨⟨_, _, rfl, Or.inl rfl⟩, fun T k n hs hn hT => ?_⟩
  simp only [List.length_append, List.length_cons, List.length_nil, List.length_map] at hn hT
  have h0 := hs.hd
  have h1 := hs.tl.hd
  have hv := hs.tl.tl.left
  have h2 := hs.tl.tl.right.hd
  have hq := hs.tl.tl.right.tl.left
  have h3 := hs.tl.tl.right.tl.right.hd
  simp only [List.length_map] at h2 hq h3
  obtain ⟨g1, g2⟩ := name_ok h1
  obtain ⟨V, e1, r1⟩ := vars_read vs T (k + 1 + 1) T.length [] hv (by omega) (by
    have : (tk T (k + 1 + 1 + vs.length)).kind = 5 := congrArg Prod.fst h2
    omega)
  obtain ⟨B, e2, r2⟩ := h.reads T _ n T.length [] hq (by omega) (by omega) (by omega) h3
  refine ⟨.ty (tk T (k + 1)) V B, ?_, ?_⟩
  · simp only [dcS, g2, toList_mk, vsW_text, e1]
    rw [← e2, mksW_es]
  · unfold declM
    rw [is_yes h0, if_pos rfl]
    unfold typeM
    simp only [bnd, want_ok h0, g1, r1, want_ok h2, r2, want_ok h3]
    simp
    omega
/-- A program. -/
inductive RdP : List Ky → List UInt8 → Prop where
  | nil : RdP [] []
  | cons {p q : List Ky} {S R : List UInt8} : RdD p S → RdP q R → RdP (p ++ q) ((S ++ [59, 10]) ++ R)
theorem RdP.reads {p : List Ky} {S : List UInt8} (h : RdP p S) : ∀ (T : List Pu.Tok) (k n f : Nat) (l : List Dc), Sits T k p → p.length ≤ n → p.length ≤ T.length + 1 → p.length ≤ f → (tk T (k + p.length)).kind = 7 → ∃ B, prS B = S ∧ declsF T (declM T n) f l k = .ok (l ++ B, k + p.length) := by
  induction h with
  | nil =>
    intro T k n f l _ _ _ _ he
    simp at he
    refine ⟨[], rfl, ?_⟩
    rw [decls_end (by simp [isT, he]) (by simp [isT, he])]
    simp
  | @cons p q S R hp hq ih =>
    intro T k n f l hs hn hT hf he
    simp only [List.length_append] at hn hT hf he
    obtain ⟨⟨x, r, e0, hx⟩, hp⟩ := hp
    have hl : 1 ≤ p.length := by rw [e0]; simp
    obtain ⟨f, rfl⟩ : ∃ g, f = g + 1 := ⟨f - 1, by omega⟩
    obtain ⟨d, e1, r1⟩ := hp T k n hs.left (by omega) (by omega)
    obtain ⟨B, e2, r2⟩ := ih T _ n f (l ++ [d]) hs.right (by omega) (by omega) (by omega) (by rw [Nat.add_assoc]; exact he)
    have h0 : keyT (tk T k) = x := by have := hs.left; rw [e0] at this; exact this.hd
    refine ⟨d :: B, by rw [← e1, ← e2]; simp [prS, dcE], ?_⟩
    rw [decls_go (by rcases hx with rfl | rfl; · exact Or.inl (is_yes h0)
                     · exact Or.inr (is_yes h0))]
    simp only [bnd, r1, r2]
    simp
    omega
end Go.Proofs.YteneoapickhpdaaGreatDoor
namespace Go.Proofs.YteneoapickhpdaaGreatDoor
open Go Go.RowKit Un
theorem lx_sgn (c : UInt8) (h1 : Pu.lowB c.toNat = false) (h2 : Pu.upB c.toNat = false) (h3 : Pu.digB c.toNat = false) (h4 : c.toNat ≠ 39) (h5 : c.toNat ≠ 45) (h6 : Pu.signB c.toNat = true) (h7 : Pu.blankB c.toNat = false) : Lx false [c] [(5, [c])] := by
  intro s i hs hi _
  obtain ⟨h0, e⟩ := hs.hd
  refine tok_one hs hi h0 (by rw [e]; exact h7) ?_
  unfold Pu.tokAt
  rw [e, h1, h2, h3, h6, if_neg (by simp), if_neg (by simp), if_neg (by omega), if_neg (by simp), if_neg (by omega), if_pos rfl]
  rfl
theorem lx_minus : Lx false [45, 32] [(5, [45])] := by
  intro s i hs hi _
  obtain ⟨h0, e⟩ := hs.hd
  obtain ⟨h0', e'⟩ := hs.tl.hd
  have h1 : Has s i [45] := fun j hj => by have := hs j (by simp at hj ⊢; omega); have hj0 : j = 0 := by simpa using hj
                                           subst hj0; exact this
  obtain ⟨T, a, b⟩ := tok_one (k := 5) h1 hi h0 (by rw [e]; rfl) (by
    unfold Pu.tokAt
    rw [e, e']
    simp [Pu.lowB, Pu.upB, Pu.digB, Pu.signB])
  refine ⟨T, ?_, b⟩
  rw [a]
  show T ++ Pu.toks s (i + 1) = T ++ Pu.toks s (i + 2)
  rw [Pu.toks_blank h0' (by rw [e']; rfl)]
theorem lx_nl : Lx false [10] [] := by
  intro s i hs hi _
  refine ⟨[], ?_, rfl⟩
  rw [Pu.toks_blank hs.hd.1 (by rw [hs.hd.2]; rfl)]
  rfl
theorem lx_low (x : UInt8) (r : List UInt8) (hx : Pu.lowB x.toNat = true) (hr : ∀ y ∈ r, Pu.nameB y.toNat = true) : Lx true (x :: r) [(if Pu.wordB ⟨(x :: r).toArray⟩ = true then 5 else 1, x :: r)] := by
  intro s i hs hi hn
  obtain ⟨h0, h1⟩ := hs.hd
  have he := hs.end_ (p := Pu.nameB) (fun y hy => by
    rcases List.mem_cons.1 hy with rfl | hy
    · simp [Pu.nameB, hx]
    · exact hr y hy) (hn rfl)
  have hx2 : s.extract i (i + (x :: r).length) = ⟨(x :: r).toArray⟩ := toList_injA (by rw [hs.ext (by omega), toList_mk])
  refine tok_one hs hi h0 ?_ ?_
  · rw [h1]; simp [Pu.lowB] at hx; simp [Pu.blankB]; omega
  · unfold Pu.tokAt
    rw [h1, he, hx2, if_pos hx]
    split <;> rfl
theorem NmL.lx {s : ByteArray} (h : NmL s) : Lx true s.toList [(1, s.toList)] := by
  obtain ⟨x, r, e, h1, h2, h3⟩ := h
  have := lx_low x r h1 h2
  rw [h3] at this
  rw [e]
  simpa using this
theorem NmU.lx {s : ByteArray} (h : NmU s) : Lx true s.toList [(2, s.toList)] := by
  obtain ⟨x, r, e, h1, h2⟩ := h
  rw [e]
  exact lx_up x r h1 h2
theorem NmV.lx {s : ByteArray} (h : NmV s) : Lx true s.toList [(3, s.toList)] := by
  obtain ⟨x, r, e, h1, h2, h3⟩ := h
  rw [e]
  exact lx_var x r h1 h2 h3
theorem lx_word (x : UInt8) (r : List UInt8) (hx : Pu.lowB x.toNat = true) (hr : ∀ y ∈ r, Pu.nameB y.toNat = true) (hw : Pu.wordB ⟨(x :: r).toArray⟩ = true) : Lx true (x :: r) [(5, x :: r)] := by
  have := lx_low x r hx hr
  rw [hw] at this
  simpa using this
theorem lx_dig (x : UInt8) (r : List UInt8) (hx : Pu.digB x.toNat = true) (hr : ∀ y ∈ r, Pu.digB y.toNat = true) (hl : r.length ≤ 8) : Lx true (x :: r) [(4, x :: r)] := by
  intro s i hs hi hn
  obtain ⟨h0, h1⟩ := hs.hd
  have hq : Pu.digB (Pu.at_ s (i + 1 + r.length)) = false := by
    have := hn rfl
    simp only [List.length_cons] at this
    rw [show i + (r.length + 1) = i + 1 + r.length by omega] at this
    unfold Pu.nameB at this
    simp at this
    exact this.2
  have he := hs.tl.end_ (p := Pu.digB) hr hq
  have hd : 48 ≤ x.toNat ∧ x.toNat ≤ 57 := by simpa [Pu.digB] using hx
  refine tok_one hs hi h0 ?_ ?_
  · rw [h1]; simp [Pu.blankB]; omega
  · unfold Pu.tokAt
    rw [h1, he, if_neg (by simp [Pu.lowB]; omega), if_neg (by simp [Pu.upB]; omega), if_neg (by omega), if_pos hx, if_pos (by omega)]
    simp [Nat.add_assoc, Nat.add_comm 1]
theorem dec_ne' : ∀ n, dec n ≠ [] := by
  intro n
  unfold dec
  split <;> simp
theorem dec_dig (n : Nat) : ∀ y ∈ dec n, Pu.digB y.toNat = true := by
  induction n using Nat.strongRecOn with
  | _ n ih =>
    unfold dec
    have hg : Pu.digB (dg n).toNat = true := by have := dg_in n; simp [Pu.digB]; omega
    split
    · simp [hg]
    · intro y hy
      rcases List.mem_append.1 hy with q | q
      · exact ih (n / 10) (by omega) y q
      · rw [List.mem_singleton.1 q]; exact hg
theorem lx_dec {n : Nat} (h : n < 1000000000) : Lx true (dec n) [(4, dec n)] := by
  have h1 := dec_len9 h
  have h2 := dec_dig n
  cases hd : dec n with
  | nil => exact absurd hd (dec_ne' n)
  | cons x r =>
    rw [hd] at h1 h2
    exact lx_dig x r (h2 x (by simp)) (fun y hy => h2 y (by simp [hy])) (by simp at h1; omega)
theorem at_bs (l : List UInt8) (i : Nat) (h : i < l.length) : Pu.at_ (bs l) i = l[i].toNat := by
  have := (bs_has l i h).2
  simpa using this
theorem numF_app (l m : List UInt8) : ∀ k, k ≤ l.length → numF (bs (l ++ m)) k = numF (bs l) k
  | 0, _ => rfl
  | k + 1, h => by
    simp only [numF, numF_app l m k (by omega)]
    rw [at_bs l k (by omega), at_bs (l ++ m) k (by simp; omega), List.getElem_append_left (by omega)]
theorem numF_dec (n : Nat) : numF (bs (dec n)) (dec n).length = n := by
  induction n using Nat.strongRecOn with
  | _ n ih =>
    have hg : ((dg n).toNat + 208) % 256 = n % 10 := by
      have : (dg n).toNat = 48 + n % 10 := by
        unfold dg
        have h : n % 10 < 10 := Nat.mod_lt _ (by decide)
        generalize n % 10 = d at h
        match d, h with
        | 0, _ | 1, _ | 2, _ | 3, _ | 4, _ | 5, _ | 6, _ | 7, _ | 8, _ | 9, _ => rfl
      omega
    by_cases hn : n < 10
    · have e : dec n = [dg n] := by unfold dec; rw [if_pos hn]
      rw [e]
      show 10 * numF (bs [dg n]) 0 + (Pu.at_ (bs [dg n]) 0 + 208) % 256 = n
      rw [at_bs [dg n] 0 (by simp)]
      show 10 * 0 + ((dg n).toNat + 208) % 256 = n
      omega
    · have e : dec n = dec (n / 10) ++ [dg n] := by rw [dec, if_neg hn]
      have h1 := ih (n / 10) (by omega)
      rw [e, List.length_append]
      show 10 * numF (bs (dec (n / 10) ++ [dg n])) (dec (n / 10)).length + (Pu.at_ (bs (dec (n / 10) ++ [dg n])) (dec (n / 10)).length + 208) % 256 = n
      rw [numF_app _ _ _ (Nat.le_refl _), h1, at_bs _ _ (by simp)]
      simp only [List.getElem_append_right (Nat.le_refl _), Nat.sub_self, List.getElem_cons_zero, hg]
      omega
theorem numB_dec {n : Nat} (h : n < 1000000000) : numB (bs (dec n)) = n := by
  unfold numB
  rw [bs_size, Nat.min_eq_left (dec_len9 h)]
  exact numF_dec n
theorem Lx.pre {F l : List UInt8} {K p : List Ky} {b : Bool} (h : Lx false F K) (h' : Lx b l p) : Lx b (F ++ l) (K ++ p) := h.app h' (fun e => by cases e)
theorem Lx.mid {F l m : List UInt8} {K p q : List Ky} {b : Bool} {x : UInt8} {r : List UInt8} (h : Lx true l p) (hF : Lx false F K) (e : F = x :: r) (hx : Pu.nameB x.toNat = false) (h' : Lx b m q) : Lx b (l ++ (F ++ m)) (p ++ (K ++ q)) :=
  h.app (hF.pre h') (fun _ => ⟨x, r ++ m, by rw [e]; rfl, hx⟩)
theorem Lx.post {F l : List UInt8} {K p : List Ky} {b : Bool} {x : UInt8} {r : List UInt8} (h : Lx true l p) (hF : Lx b F K) (e : F = x :: r) (hx : Pu.nameB x.toNat = false) : Lx b (l ++ F) (p ++ K) := h.app hF (fun _ => ⟨x, r, e, hx⟩)
theorem lx_sp {l : List UInt8} {p : List Ky} {b : Bool} (h : Lx b l p) : Lx b (32 :: l) p := lx_blank.pre h
theorem lx_ws {x : UInt8} {r : List UInt8} (hx : Pu.lowB x.toNat = true) (hr : ∀ y ∈ r, Pu.nameB y.toNat = true) (hw : Pu.wordB ⟨(x :: r).toArray⟩ = true) : Lx false (x :: r ++ [32]) [(5, x :: r)] :=
  (lx_word x r hx hr hw).app lx_blank (fun _ => ⟨32, [], rfl, by decide⟩)
theorem lx_open : Lx false [40] [yOpen] := lx_sign 40 (by simp)
theorem lx_close : Lx false [41] [yClose] := lx_sign 41 (by simp)
theorem lx_com : Lx false [44, 32] [yComma] := (lx_sign 44 (by simp)).pre lx_blank
theorem lx_sg (c : UInt8) (h : Lx false [c] [(5, [c])]) : Lx false [32, c, 32] [(5, [c])] := lx_sp (h.pre lx_blank)
theorem lx_col : Lx false [32, 58, 32] [yColon] := lx_sg 58 (lx_sgn 58 (by decide) (by decide) (by decide) (by decide) (by decide) (by decide) (by decide))
theorem lx_eq : Lx false [32, 61, 32] [yEq] := lx_sg 61 (lx_sgn 61 (by decide) (by decide) (by decide) (by decide) (by decide) (by decide) (by decide))
theorem lx_bar : Lx false [32, 124, 32] [yBar] := lx_sg 124 (lx_sgn 124 (by decide) (by decide) (by decide) (by decide) (by decide) (by decide) (by decide))
theorem lx_star : Lx false [32, 42, 32] [yStar] := lx_sg 42 (lx_sgn 42 (by decide) (by decide) (by decide) (by decide) (by decide) (by decide) (by decide))
theorem lx_plus : Lx false [32, 43, 32] [(5, [43])] := lx_sg 43 (lx_sgn 43 (by decide) (by decide) (by decide) (by decide) (by decide) (by decide) (by decide))
theorem lx_less : Lx false [32, 60, 32] [yLess] := lx_sg 60 (lx_sgn 60 (by decide) (by decide) (by decide) (by decide) (by decide) (by decide) (by decide))
theorem lx_min : Lx false [32, 45, 32] [(5, [45])] := lx_sp lx_minus
theorem lx_any : Lx false [95] [yAny] := lx_sgn 95 (by decide) (by decide) (by decide) (by decide) (by decide) (by decide) (by decide)
theorem lx_semi : Lx false [59] [ySemi] := lx_sgn 59 (by decide) (by decide) (by decide) (by decide) (by decide) (by decide) (by decide)
theorem lx_arr : Lx false [32, 45, 62, 32] [yArrow] := lx_sp (lx_arrow.pre lx_blank)
theorem lx_fun : Lx false [102, 117, 110, 32] [yFun] := lx_ws (x := 102) (r := [117, 110]) (by decide) (by decide) (by simp [Pu.wordB, Pu.words, toList_mk, ByteArray.toList_eq])
theorem lx_let : Lx false [108, 101, 116, 32] [yLet] := lx_ws (x := 108) (r := [101, 116]) (by decide) (by decide) (by simp [Pu.wordB, Pu.words, toList_mk, ByteArray.toList_eq])
theorem lx_rec : Lx false [114, 101, 99, 32] [yRec] := lx_ws (x := 114) (r := [101, 99]) (by decide) (by decide) (by simp [Pu.wordB, Pu.words, toList_mk, ByteArray.toList_eq])
theorem lx_if : Lx false [105, 102, 32] [yIf] := lx_ws (x := 105) (r := [102]) (by decide) (by decide) (by simp [Pu.wordB, Pu.words, toList_mk, ByteArray.toList_eq])
theorem lx_match : Lx false [109, 97, 116, 99, 104, 32] [yMatch] := lx_ws (x := 109) (r := [97, 116, 99, 104]) (by decide) (by decide) (by simp [Pu.wordB, Pu.words, toList_mk, ByteArray.toList_eq])
theorem lx_type : Lx false [116, 121, 112, 101, 32] [yType] := lx_ws (x := 116) (r := [121, 112, 101]) (by decide) (by decide) (by simp [Pu.wordB, Pu.words, toList_mk, ByteArray.toList_eq])
theorem lx_in : Lx false [32, 105, 110, 32] [yIn] := lx_sp (lx_ws (x := 105) (r := [110]) (by decide) (by decide) (by simp [Pu.wordB, Pu.words, toList_mk, ByteArray.toList_eq]))
theorem lx_then : Lx false [32, 116, 104, 101, 110, 32] [yThen] := lx_sp (lx_ws (x := 116) (r := [104, 101, 110]) (by decide) (by decide) (by simp [Pu.wordB, Pu.words, toList_mk, ByteArray.toList_eq]))
theorem lx_else : Lx false [32, 101, 108, 115, 101, 32] [yElse] := lx_sp (lx_ws (x := 101) (r := [108, 115, 101]) (by decide) (by decide) (by simp [Pu.wordB, Pu.words, toList_mk, ByteArray.toList_eq]))
theorem lx_with : Lx false [32, 119, 105, 116, 104, 32] [yWith] := lx_sp (lx_ws (x := 119) (r := [105, 116, 104]) (by decide) (by decide) (by simp [Pu.wordB, Pu.words, toList_mk, ByteArray.toList_eq]))
theorem lx_end : Lx true [32, 101, 110, 100] [yEnd] := lx_sp (lx_word 101 [110, 100] (by decide) (by decide) (by simp [Pu.wordB, Pu.words, toList_mk, ByteArray.toList_eq]))
theorem lx_true : Lx true [116, 114, 117, 101] [yTrue] := lx_word 116 [114, 117, 101] (by decide) (by decide) (by simp [Pu.wordB, Pu.words, toList_mk, ByteArray.toList_eq])
theorem lx_false : Lx true [102, 97, 108, 115, 101] [yFalse] := lx_word 102 [97, 108, 115, 101] (by decide) (by decide) (by simp [Pu.wordB, Pu.words, toList_mk, ByteArray.toList_eq])
/-- A source that is made of such tokens is read. -/
theorem readP_of {l : List UInt8} {p : List Ky} {S : List UInt8} (hl : Lx true l p) (hg : RdP p S) (hz : l.length ≤ 400) : ∃ B, readP (bs l) = .ok B ∧ prS B = S := by
  obtain ⟨T, e, k⟩ := hl (bs l) 0 (bs_has l) (Nat.zero_le _) (fun _ => by rw [Pu.at_ge (s := bs l) (i := 0 + l.length) (by rw [bs_size]; omega)]; rfl)
  rw [Pu.toks_end (s := bs l) (i := 0 + l.length) (by rw [bs_size]; omega)] at e
  have hlen : T.length = p.length := by rw [← k]; simp
  have hs : Sits (T ++ [Pu.endTok (bs l)]) 0 p := fun i hi => by
    have : tk (T ++ [Pu.endTok (bs l)]) (0 + i) = T[i]'(by omega) := by
      unfold tk
      rw [Nat.zero_add, List.getD_eq_getElem?_getD, List.getElem?_append_left (by omega), List.getElem?_eq_getElem (by omega)]
      rfl
    rw [this]
    subst k
    simp
  have hend : tk (T ++ [Pu.endTok (bs l)]) (0 + p.length) = Pu.endTok (bs l) := by
    unfold tk
    rw [Nat.zero_add, List.getD_eq_getElem?_getD, List.getElem?_append_right (by omega), hlen]
    simp
  obtain ⟨B, e1, hr⟩ := hg.reads (T ++ [Pu.endTok (bs l)]) 0 (T ++ [Pu.endTok (bs l)]).length (T ++ [Pu.endTok (bs l)]).length [] hs (by simp; omega) (by simp; omega) (by simp; omega) (by rw [hend]; rfl)
  refine ⟨B, ?_, e1⟩
  unfold readP
  rw [if_neg (by rw [bs_size]; omega), e]
  unfold bnd
  rw [hr]
  simp only [endP, hend]
  rfl
end Go.Proofs.YteneoapickhpdaaGreatDoor
