import Derived.Test.YtfflpeklkfjdnaaGreatDoorKTm
import Derived.Test.YtfflpeklkfjdnaaGreatDoorKQa
set_option linter.unusedSimpArgs false
set_option linter.unusedVariables false
set_option linter.unusedSectionVars false
namespace Go.Proofs.YtfflpeklkfjdnaaGreatDoor
open Go Go.RowKit Go.ChangeMaps Un
mutual
/-- How many parts a part has. -/
def nz : Nd → Nat
  | .mk _ _ _ L _ _ _ => 1 + nzL L
def nzL : List Nd → Nat
  | [] => 0
  | x :: l => nz x + nzL l
end
theorem nzL_app : ∀ (a b : List Nd), nzL (a ++ b) = nzL a + nzL b
  | [], b => by simp [nzL]
  | x :: a, b => by simp [nzL, nzL_app a b]; omega
mutual
theorem size_mean : ∀ (nd : Nd) (ns : List ByteArray), size (mean ns nd).1 ≤ nz nd
  | .mk k s n L f t a, ns => by
    unfold mean
    split
    · simp [size, nz]
    · simp only [size, nz]
      have := sizeL_mean L ns
      omega
theorem sizeL_mean : ∀ (L : List Nd) (ns : List ByteArray), sizeL (meanL ns L).1 ≤ nzL L
  | [], ns => by simp [meanL, sizeL, nzL]
  | x :: l, ns => by
    simp only [meanL, sizeL, nzL]
    have h1 := size_mean x ns
    have h2 := sizeL_mean l (mean ns x).2
    omega
end
def SzM (T : List Pu.Tok) (m : M Nd) : Prop := ∀ k a k', m k = .ok (a, k') → k < k' ∧ (k ≤ T.length → k' ≤ T.length ∧ nz a ≤ k' - k)
theorem tk_lt {T : List Pu.Tok} {k : Nat} (h : (tk T k).kind ≠ 7) : k < T.length := by
  by_cases hk : k < T.length
  · exact hk
  · exfalso
    apply h
    unfold tk
    rw [List.getD_eq_getElem?_getD, List.getElem?_eq_none (by omega)]
    rfl
theorem isT_lt {T : List Pu.Tok} {k : Nat} {c : ByteArray} (h : isT (tk T k) c = true) : k < T.length := tk_lt (by have := isT_kind h; omega)
theorem want_lt {T : List Pu.Tok} {s : ByteArray} {k : Nat} {u : Unit} {k' : Nat} (h : wantM T s k = .ok (u, k')) : k < T.length := by
  unfold wantM at h
  split at h
  · rename_i q; exact isT_lt q
  · cases h
theorem begins_lt {T : List Pu.Tok} {k : Nat} (h : beginsB (tk T k) 1 = true) : k < T.length := by
  refine tk_lt fun e => ?_
  unfold beginsB leafK at h
  simp [e, isT] at h
theorem small_sz {T : List Pu.Tok} {p : M Nd} (hp : SzM T p) : SzM T (smallM T p p 1) := by
  intro k a k' h
  unfold smallM at h
  split at h
  · rename_i hb
    have hkl := begins_lt hb
    split at h
    · unfold groupM at h
      simp only [ne_eq, not_true_eq_false, false_and, if_false] at h
      obtain ⟨u, k1, h1, h2⟩ := bnd_in h
      obtain ⟨z1, c1⟩ := hp _ _ _ h1
      unfold restM at h2
      split at h2
      · rename_i hc
        have := isT_lt hc
        obtain ⟨v, k2, h3, h4⟩ := bnd_in h2
        obtain ⟨z2, c2⟩ := hp _ _ _ h3
        unfold closeM at h4
        obtain ⟨_, k3, h5, h6⟩ := bnd_in h4
        have := want_in h5
        have := want_lt h5
        simp only [Except.ok.injEq, Prod.mk.injEq] at h6
        obtain ⟨rfl, rfl⟩ := h6
        refine ⟨by omega, fun hk => ⟨by omega, ?_⟩⟩
        have q1 := c1 (by omega)
        have q2 := c2 (by omega)
        simp [nz, nzL]; omega
      · simp only [show ¬ (1 : Nat) = 3 by omega, false_and, if_false] at h2
        unfold closeM at h2
        obtain ⟨_, k3, h5, h6⟩ := bnd_in h2
        have := want_in h5
        have := want_lt h5
        simp only [Except.ok.injEq, Prod.mk.injEq] at h6
        obtain ⟨rfl, rfl⟩ := h6
        refine ⟨by omega, fun hk => ⟨by omega, ?_⟩⟩
        have q1 := c1 (by omega)
        omega
    · simp only [Except.ok.injEq, Prod.mk.injEq] at h
      obtain ⟨rfl, rfl⟩ := h
      refine ⟨by omega, fun hk => ⟨by omega, ?_⟩⟩
      simp [leafN, nz, nzL]
  · cases h
theorem headF_sz {T : List Pu.Tok} {sm : M Nd} (hs : SzM T sm) : ∀ (f : Nat) (c : Nat) (s : ByteArray) (n : Nat) (L : List Nd) (fr t a k : Nat) (x : Nd) (k' : Nat), headF T sm 1 f (.mk c s n L fr t a) k = .ok (x, k') → k ≤ k' ∧ (k ≤ T.length → k' ≤ T.length ∧ nz x ≤ 1 + nzL L + (k' - k))
  | 0, c, s, n, L, fr, t, a, k, x, k', h => by
      simp only [headF, Except.ok.injEq, Prod.mk.injEq] at h
      obtain ⟨rfl, rfl⟩ := h
      exact ⟨Nat.le_refl _, fun hk => ⟨hk, by simp [nz]⟩⟩
  | f + 1, c, s, n, L, fr, t, a, k, x, k', h => by
      simp only [headF] at h
      split at h
      · obtain ⟨y, k1, h1, h2⟩ := bnd_in h
        obtain ⟨z1, c1⟩ := hs _ _ _ h1
        simp only [Nd.add] at h2
        have ih := headF_sz hs f c s n (L ++ [y]) fr _ a k1 x k' h2
        rw [nzL_app] at ih
        simp only [nzL] at ih
        refine ⟨by omega, fun hk => ?_⟩
        have q1 := c1 hk
        have q2 := ih.2 q1.1
        exact ⟨q2.1, by omega⟩
      · simp only [Except.ok.injEq, Prod.mk.injEq] at h
        obtain ⟨rfl, rfl⟩ := h
        exact ⟨Nat.le_refl _, fun hk => ⟨hk, by simp [nz]⟩⟩
theorem head_sz {T : List Pu.Tok} {sm : M Nd} (hs : SzM T sm) : SzM T (headM T sm 1) := by
  intro k a k' h
  unfold headM at h
  split at h
  · obtain ⟨x, k1, h1, h2⟩ := bnd_in h
    obtain ⟨z1, c1⟩ := hs _ _ _ h1
    cases x with
    | mk c s n L fr t a0 =>
      obtain ⟨z2, c2⟩ := headF_sz hs _ _ _ _ _ _ _ _ _ _ _ h2
      refine ⟨by omega, fun hk => ?_⟩
      have q1 := c1 hk
      have q2 := c2 q1.1
      simp only [nz] at q1
      exact ⟨q2.1, by omega⟩
  · exact hs _ _ _ h
theorem typ_sz {T : List Pu.Tok} : ∀ n, SzM T (typM T n)
  | 0 => fun k a k' h => by simp [typM, wrongM] at h
  | n + 1 => fun k a k' h => by
      have ih := typ_sz (T := T) n
      simp only [typM] at h
      obtain ⟨u, k1, h1, h2⟩ := bnd_in h
      obtain ⟨z1, c1⟩ := head_sz (small_sz ih) _ _ _ h1
      unfold arrowM at h2
      split at h2
      · rename_i hc
        have := isT_lt hc
        obtain ⟨v, k2, h3, h4⟩ := bnd_in h2
        obtain ⟨z2, c2⟩ := ih _ _ _ h3
        simp only [Except.ok.injEq, Prod.mk.injEq] at h4
        obtain ⟨rfl, rfl⟩ := h4
        refine ⟨by omega, fun hk => ?_⟩
        have q1 := c1 hk
        have q2 := c2 (by omega)
        exact ⟨q2.1, by simp [nz, nzL]; omega⟩
      · simp only [Except.ok.injEq, Prod.mk.injEq] at h2
        obtain ⟨rfl, rfl⟩ := h2
        exact ⟨z1, c1⟩
theorem toksF_len' (s : ByteArray) : ∀ f i, (Pu.toksF s f i).length ≤ f + 1
  | 0, i => by simp [Pu.toksF]
  | f + 1, i => by
    unfold Pu.toksF
    split
    · split
      · have := toksF_len' s f (i + 1); omega
      · have := toksF_len' s f (Pu.tokAt s i).to; simp; omega
    · simp
/-- What is read as a type. -/
theorem readT_ty {s : ByteArray} {a : Nd} (h : readT s = .ok a) : TyNd a ∧ cnt a ≤ 401 ∧ nz a ≤ 401 := by
  unfold readT at h
  split at h
  · cases h
  · rename_i hs
    have hT : (Pu.toks s 0).length ≤ 401 := by have := toksF_len' s (s.size - 0) 0; unfold Pu.toks; omega
    split at h
    · cases h
    · rename_i a' k e
      split at h
      · cases h
        obtain ⟨h1, h2, h3⟩ := typ_ty (toks_up s (by omega)) (by omega) _ _ _ _ e
        obtain ⟨h4, h5⟩ := typ_sz _ _ _ _ e
        have q := h5 (Nat.zero_le _)
        exact ⟨h1, by omega, by omega⟩
      · cases h
section
variable {w : World}
theorem sizeL_takeQ : ∀ (L : List Ty) (i : Nat) (h : i < L.length), sizeL (L.take (i + 1)) = sizeL (L.take i) + size L[i]
  | [], i, h => by simp at h
  | x :: l, 0, h => by simp [sizeL]
  | x :: l, i + 1, h => by simp only [List.take_succ_cons, sizeL, List.getElem_cons_succ]; rw [sizeL_takeQ l i (by simpa using h)]; omega
theorem sizeL_take_le : ∀ (L : List Ty) (i : Nat), sizeL (L.take i) ≤ sizeL L
  | [], i => by simp
  | x :: l, 0 => by simp [sizeL]
  | x :: l, i + 1 => by simp only [List.take_succ_cons, sizeL]; have := sizeL_take_le l i; omega
theorem len_sizeL : ∀ (L : List Ty), L.length ≤ sizeL L
  | [] => by simp
  | x :: l => by
    have h1 := len_sizeL l
    have h2 : 1 ≤ size x := by cases x <;> simp [size]
    simp only [sizeL, List.length_cons]; omega
theorem taT_VM (a : Value) (w : World) : (Instr.typeAssert (.iface 157 a) 66 275 true).run Tryz.prog w = .ok (.tuple #[.agg #[.string ⟨#[]⟩, .slice none 0 0], .bool false]) w := by kernel_rfl
theorem taT_MM (a b : Value) (w : World) : (Instr.typeAssert (.iface 275 (.agg #[a, b])) 66 275 true).run Tryz.prog w = .ok (.tuple #[.agg #[a, b], .bool true]) w := by kernel_rfl
def SizeC (T : Ty) : Prop := ∀ (w : World) (P : Nat → Prop) (v : Value), TyV w P T v → size T ≤ 1000 → Calls Tryz.prog 60 #[v] w fun e w' => e = .returned (.int .i64 (size T : Int)) ∧ Below w.heap.size w w'
def SizeRelQ (L : List Ty) (w : World) (gk : Nat) (sz v : Value) (wr : World) : Prop :=
  ∃ j : Nat, Hid (gk = L.length - j) ∧ j ≤ L.length ∧ v = .int .i64 (j : Int) ∧ sz = .int .i64 ((1 + sizeL (L.take j) : Nat) : Int) ∧ Below w.heap.size w wr
set_option maxRecDepth 100000 in
set_option maxHeartbeats 1000000 in
theorem size_var' (n : Nat) : SizeC (.var n) := by
  intro w P v h hs
  cases h
  have h1 := taT_VM
  go_enter Tryz.func60, Tryz.ntmps60
  go_wp2_with fail
  go_ret
  exact ⟨rfl, (Below.refl _ _).alloc (Nat.le_refl _) _⟩
set_option maxRecDepth 100000 in
set_option maxHeartbeats 1000000 in
theorem size_con' (c : ByteArray) (L : List Ty) (IH : ∀ i (h : i < L.length), SizeC L[i]) : SizeC (.con c L) := by
  intro w P v h hs
  simp only [size] at hs ⊢
  cases h with
  | con c L sa sc vs hc hrow hr =>
  have h1 := taT_MM
  have HR := hide hr
  have HW := hide hrow
  have HI := hide IH
  clear hr hrow IH
  go_enter Tryz.func60, Tryz.ntmps60
  go_wp2_with fail
  go_loopg [3, 17] L.length (fun gk sz v wr => SizeRelQ L w gk sz v wr)
  case atStart => exact ⟨0, hide (by simp), Nat.zero_le _, rfl, by simp [sizeL], (Below.refl _ _).alloc (Nat.le_refl _) _⟩
  case round =>
    obtain ⟨j, hgk, hj, rfl, rfl, hb⟩ := hrel
    have hsl := sizeL_take_le L j
    have hll := len_sizeL L
    by_cases hjl : j < L.length
    · have hd : (j : Int) < (L.length : Int) := by omega
      obtain ⟨g, rfl, hg, hgz, hcell⟩ : ∃ g, sa = some ⟨g, 0, none⟩ ∧ P g ∧ g < w.heap.size ∧ ∀ i, i < L.length → w.cell? ⟨g, i, none⟩ = some (vs i) := by
        rcases unhide HW with h0 | h0
        · subst h0; simp at hjl
        · exact h0
      have cg : wr.cell? ⟨g, j, none⟩ = some (vs j) := (World.cell?_of_block (a := ⟨g, j, none⟩) (hb.block g hgz)).trans (hcell j hjl)
      have TJ := (unhide HR j hjl).bel hb
      obtain ⟨tv, xv, hv⟩ := TJ.iface
      have e1 := sizeL_takeQ L j hjl
      have e2 := sizeL_take_le L (j + 1)
      have HC := unhide HI j hjl wr P (vs j) TJ (by omega)
      rw [hv] at cg HC
      go_wp2_with (go_at_call 60; refine HC.mono ?_; rintro e w1 ⟨rfl, hb1⟩; have HB1 := hide (hb.trans (hb1.mono hb.size)); clear hb1)
      go_roundg (L.length - (j + 1))
      case measure => rw [unhide hgk]; omega
      case rel => exact ⟨j + 1, hide rfl, by omega, by go_num, by rw [e1]; go_num, unhide HB1⟩
    · have hd : decide ((j : Int) < (L.length : Int)) = false := by simp; omega
      have ej : j = L.length := by omega
      subst ej
      rw [List.take_length]
      go_wp2_with fail
      go_ret
      exact ⟨rfl, hb⟩
theorem sizeQ_C : ∀ (T : Ty), SizeC T
  | .var n => size_var' n
  | .con c L => size_con' c L fun i h => sizeQ_C L[i]
termination_by T => SizeOf.sizeOf T
decreasing_by
  have h2 := List.sizeOf_lt_of_mem (List.getElem_mem h)
  simp
  omega
end
end Go.Proofs.YtfflpeklkfjdnaaGreatDoor
