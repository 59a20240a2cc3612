import Derived.Maps.AppendAt
import Derived.Test.YteneoapickhpdaaGreatDoorJGRa
import Derived.Test.YteneoapickhpdaaGreatDoorJGTo
import Derived.Test.YteneoapickhpdaaGreatDoorJGSa
import Derived.Test.YteneoapickhpdaaGreatDoorJGTq
import Derived.Test.YteneoapickhpdaaGreatDoorJGTm
set_option linter.unusedSimpArgs false
set_option linter.unusedVariables false
set_option linter.unusedSectionVars false
namespace Go.Proofs.YteneoapickhpdaaGreatDoor
open Go Go.RowKit

/-- These bytes stand at a place. -/
def Has (s : ByteArray) (i : Nat) (l : List UInt8) : Prop := ∀ j (h : j < l.length), i + j < s.size ∧ Pu.at_ s (i + j) = l[j].toNat
theorem Has.left {s : ByteArray} {i : Nat} {l m : List UInt8} (h : Has s i (l ++ m)) : Has s i l := fun j hj => by
  have := h j (by simp; omega)
  rwa [List.getElem_append_left hj] at this
theorem Has.right {s : ByteArray} {i : Nat} {l m : List UInt8} (h : Has s i (l ++ m)) : Has s (i + l.length) m := fun j hj => by
  have := h (l.length + j) (by simp; omega)
  rw [List.getElem_append_right (by omega)] at this
  simpa [Nat.add_assoc] using this
theorem Has.hd {s : ByteArray} {i : Nat} {x : UInt8} {m : List UInt8} (h : Has s i (x :: m)) : i < s.size ∧ Pu.at_ s i = x.toNat := h 0 (by simp)
theorem Has.tl {s : ByteArray} {i : Nat} {x : UInt8} {m : List UInt8} (h : Has s i (x :: m)) : Has s (i + 1) m := fun j hj => by
  have := h (j + 1) (by simp; omega)
  simpa [Nat.add_assoc, Nat.add_comm 1 j] using this
theorem Has.le {s : ByteArray} {i : Nat} {l : List UInt8} (h : Has s i l) (hi : i ≤ s.size) : i + l.length ≤ s.size := by
  cases l with
  | nil => simpa using hi
  | cons x r => have := (h r.length (by simp)).1; simp; omega
theorem Has.ext {s : ByteArray} {i : Nat} {l : List UInt8} (h : Has s i l) (hi : i ≤ s.size) : (s.extract i (i + l.length)).toList = l := by
  have hle := h.le hi
  rw [ByteArray.toList_eq, ByteArray.data_extract]
  apply List.ext_getElem
  · have hd : s.data.size = s.size := rfl
    simp
    omega
  · intro j h1 h2
    obtain ⟨h3, h4⟩ := h j h2
    rw [Pu.at_lt h3] at h4
    have : s[i + j] = l[j] := UInt8.toNat_inj.1 h4
    rw [← this]
    simp [ByteArray.getElem_eq_getElem_data]
theorem Has.end_ {s : ByteArray} {p : Nat → Bool} : ∀ {l : List UInt8} {i : Nat}, Has s i l → (∀ x ∈ l, p x.toNat = true) → p (Pu.at_ s (i + l.length)) = false → Pu.endTo s p i = i + l.length
  | [], i, _, _, hn => by
      simp at hn
      by_cases hi : i < s.size
      · simpa using Pu.endTo_no hi hn
      · simpa using Pu.endTo_end (by omega)
  | x :: r, i, h, hp, hn => by
      rw [Pu.endTo_yes h.hd.1 (by rw [h.hd.2]; exact hp x (by simp)), Has.end_ h.tl (fun y hy => hp y (by simp [hy])) (by simpa [Nat.add_assoc, Nat.add_comm 1] using hn)]
      simp [Nat.add_assoc, Nat.add_comm 1]
/-- Bytes that are read as these tokens; where nb says so, nothing that belongs to a name may follow. -/
def Lx (nb : Bool) (l : List UInt8) (p : List Ky) : Prop := ∀ s i, Has s i l → i ≤ s.size → (nb = true → Pu.nameB (Pu.at_ s (i + l.length)) = false) → ∃ T, Pu.toks s i = T ++ Pu.toks s (i + l.length) ∧ T.map keyT = p
theorem Lx.app {b1 b2 : Bool} {l1 l2 : List UInt8} {p1 p2 : List Ky} (h1 : Lx b1 l1 p1) (h2 : Lx b2 l2 p2) (hb : b1 = true → ∃ x r, l2 = x :: r ∧ Pu.nameB x.toNat = false) : Lx b2 (l1 ++ l2) (p1 ++ p2) := by
  intro s i hs hi hn
  have hl := hs.left.le hi
  obtain ⟨T1, e1, k1⟩ := h1 s i hs.left hi (fun q => by
    obtain ⟨x, r, rfl, hx⟩ := hb q
    rw [hs.right.hd.2]
    exact hx)
  obtain ⟨T2, e2, k2⟩ := h2 s (i + l1.length) hs.right hl (fun q => by have := hn q; simpa [Nat.add_assoc] using this)
  refine ⟨T1 ++ T2, ?_, by simp [k1, k2]⟩
  rw [e1, e2]
  simp [Nat.add_assoc]
theorem Lx.weak {b : Bool} {l : List UInt8} {p : List Ky} (h : Lx b l p) : Lx true l p := fun s i hs hi hn => h s i hs hi (fun _ => hn rfl)
theorem lx_blank : Lx false [32] [] := by
  intro s i hs hi _
  refine ⟨[], ?_, rfl⟩
  rw [Pu.toks_blank hs.hd.1 (by rw [hs.hd.2]; rfl)]
  rfl
theorem tok_one {s : ByteArray} {i : Nat} {l : List UInt8} {k : Nat} (hs : Has s i l) (hi : i ≤ s.size) (h0 : i < s.size) (hb : Pu.blankB (Pu.at_ s i) = false) (ht : Pu.tokAt s i = Pu.mkT s i k (i + l.length)) : ∃ T, Pu.toks s i = T ++ Pu.toks s (i + l.length) ∧ T.map keyT = [(k, l)] := by
  refine ⟨[Pu.mkT s i k (i + l.length)], ?_, ?_⟩
  · rw [Pu.toks_tok h0 hb, ht]
    rfl
  · simp only [List.map_cons, List.map_nil, keyT, Pu.mkT]
    rw [hs.ext hi]
theorem lx_sign (c : UInt8) (hc : c = 40 ∨ c = 41 ∨ c = 44) : Lx false [c] [(5, [c])] := by
  intro s i hs hi _
  obtain ⟨h0, h1⟩ := hs.hd
  refine tok_one hs hi h0 ?_ ?_
  · rw [h1]; rcases hc with rfl | rfl | rfl <;> rfl
  · unfold Pu.tokAt
    rw [h1]
    rcases hc with rfl | rfl | rfl <;> simp [Pu.lowB, Pu.upB, Pu.digB, Pu.signB]
theorem lx_arrow : Lx false [45, 62] [(5, [45, 62])] := by
  intro s i hs hi _
  obtain ⟨h0, h1⟩ := hs.hd
  obtain ⟨h2, h3⟩ := hs.tl.hd
  refine tok_one hs hi h0 ?_ ?_
  · rw [h1]; rfl
  · unfold Pu.tokAt
    rw [h1, h3]
    simp [Pu.lowB, Pu.upB, Pu.digB]
theorem lx_up (x : UInt8) (r : List UInt8) (hx : Pu.upB x.toNat = true) (hr : ∀ y ∈ r, Pu.nameB y.toNat = true) : Lx true (x :: r) [(2, x :: r)] := by
  intro s i hs hi hn
  obtain ⟨h0, h1⟩ := hs.hd
  have hlow : Pu.lowB x.toNat = false := by simp [Pu.upB] at hx; simp [Pu.lowB]; omega
  have he := hs.end_ (p := Pu.nameB) (fun y hy => by
    rcases List.mem_cons.1 hy with rfl | hy
    · simp [Pu.nameB, hx]
    · exact hr y hy) (hn rfl)
  refine tok_one hs hi h0 ?_ ?_
  · rw [h1]; simp [Pu.upB] at hx; simp [Pu.blankB]; omega
  · unfold Pu.tokAt
    rw [h1, he]
    simp [hlow, hx]
theorem lx_var (x : UInt8) (r : List UInt8) (hx : Pu.lowB x.toNat = true) (hr : ∀ y ∈ r, Pu.nameB y.toNat = true) (hw : Pu.wordB ⟨(x :: r).toArray⟩ = false) : Lx true (39 :: x :: r) [(3, 39 :: x :: r)] := by
  intro s i hs hi hn
  obtain ⟨h0, h1⟩ := hs.hd
  obtain ⟨h2, h3⟩ := hs.tl.hd
  have he := hs.tl.end_ (p := Pu.nameB) (fun y hy => by
    rcases List.mem_cons.1 hy with rfl | hy
    · simp [Pu.nameB, hx]
    · exact hr y hy) (by have := hn rfl; simpa [Nat.add_assoc, Nat.add_comm 1] using this)
  have hx2 : s.extract (i + 1) (i + 1 + (x :: r).length) = ⟨(x :: r).toArray⟩ := toList_injA (by rw [hs.tl.ext (by omega), toList_mk])
  refine tok_one hs hi h0 ?_ ?_
  · rw [h1]; rfl
  · unfold Pu.tokAt
    rw [h1, h3, he, hx2, hw, if_neg (by decide), if_neg (by decide), if_pos ⟨by decide, hx⟩, if_neg (by decide)]
    simp [Nat.add_assoc, Nat.add_comm 1]
theorem bs_has (l : List UInt8) : Has (bs l) 0 l := by
  intro j hj
  have h1 : 0 + j < (bs l).size := by rw [bs_size]; omega
  refine ⟨h1, ?_⟩
  rw [Pu.at_lt h1]
  simp [bs, ByteArray.getElem_eq_getElem_data]
/-- A text that is made of such tokens is read. -/
theorem readT_of {l : List UInt8} {p : List Ky} {t : Nd} (hl : Lx true l p) (hg : Gr 2 p t) (hz : l.length ≤ 400) : ∃ nd, readT (bs l) = .ok nd ∧ er nd = t := by
  obtain ⟨T, e, k⟩ := hl (bs l) 0 (bs_has l) (Nat.zero_le _) (fun _ => by rw [Pu.at_ge (s := bs l) (i := 0 + l.length) (by rw [bs_size]; omega)]; rfl)
  rw [Pu.toks_end (s := bs l) (i := 0 + l.length) (by rw [bs_size]; omega)] at e
  have hlen : T.length = p.length := by rw [← k]; simp
  have hs : Sits (T ++ [Pu.endTok (bs l)]) 0 p := fun i hi => by
    have : tk (T ++ [Pu.endTok (bs l)]) (0 + i) = T[i]'(by omega) := by
      unfold tk
      rw [Nat.zero_add, List.getD_eq_getElem?_getD, List.getElem?_append_left (by omega), List.getElem?_eq_getElem (by omega)]
      rfl
    rw [this]
    subst k
    simp
  have hend : tk (T ++ [Pu.endTok (bs l)]) (0 + p.length) = Pu.endTok (bs l) := by
    unfold tk
    rw [Nat.zero_add, List.getD_eq_getElem?_getD, List.getElem?_append_right (by omega), hlen]
    simp
  obtain ⟨nd, e1, hr⟩ := hg.reads (T ++ [Pu.endTok (bs l)]) 0 (T ++ [Pu.endTok (bs l)]).length hs (by simp; omega) (by simp; omega) (by
    unfold Ends2
    rw [hend, begins_key, isT_key]
    exact ⟨by simp [keyT, Pu.endTok], by simp [keyT, Pu.endTok]⟩)
  refine ⟨nd, ?_, e1⟩
  unfold readT
  rw [if_neg (by rw [bs_size]; omega), e, hr]
  simp only [hend]
  rfl
end Go.Proofs.YteneoapickhpdaaGreatDoor
namespace Go.Proofs.YteneoapickhpdaaGreatDoor
open Go Go.RowKit Un
/-- Canon, as the document says. -/
def canonA (s : ByteArray) : List UInt8 × Fl :=
  match readT s with
  | .error f => ([], f)
  | .ok a => if 48 < size (mean [] a).1 then ([], ⟨7, 0, s.size⟩) else (Un.written dec (mean [] a).1, noFl)
abbrev zK : Array Value := #[.slice none 0 0, .slice none 0 0]
def CanonPost (s : ByteArray) (w : World) (e : Ending) (w' : World) : Prop := ∃ z f, e = .returned (.tuple #[.string z, flV f]) ∧ Below w.heap.size w w' ∧ z = bs (canonA s).1 ∧ f = (canonA s).2
section
variable {w : World}
end
end Go.Proofs.YteneoapickhpdaaGreatDoor
namespace Go.Proofs.YteneoapickhpdaaGreatDoor
open Go Go.RowKit Un
/-- Unify, as the document says. -/
def UniA (a b : ByteArray) (z : List UInt8) (ok : Bool) (f : Fl) : Prop :=
  match readT a with
  | .error f' => z = [] ∧ ok = false ∧ f = f'
  | .ok na => if 48 < size (mean [] na).1 then z = [] ∧ ok = false ∧ f = ⟨7, 0, a.size⟩ else
    match readT b with
    | .error f' => z = [] ∧ ok = false ∧ f = f'
    | .ok nb => if 48 < size (mean (mean [] na).2 nb).1 then z = [] ∧ ok = false ∧ f = ⟨7, 0, b.size⟩ else
      (∃ T, Mgu (mean [] na).1 (mean (mean [] na).2 nb).1 T ∧ ((48 < size T ∧ z = [] ∧ ok = false ∧ f = ⟨7, 0, 0⟩) ∨ (¬ 48 < size T ∧ z = Un.written dec T ∧ ok = true ∧ f = noFl))) ∨
      ((∀ σ, sub σ (mean [] na).1 ≠ sub σ (mean (mean [] na).2 nb).1) ∧ z = [] ∧ ok = false ∧ f = noFl)
/-- There is but one such answer. -/
theorem UniA.one {a b : ByteArray} {z z' : List UInt8} {ok ok' : Bool} {f f' : Fl} (h : UniA a b z ok f) (h' : UniA a b z' ok' f') : z = z' ∧ ok = ok' ∧ f = f' := by
  unfold UniA at h h'
  cases e1 : readT a with
  | error f1 => rw [e1] at h h'; exact ⟨h.1.trans h'.1.symm, h.2.1.trans h'.2.1.symm, h.2.2.trans h'.2.2.symm⟩
  | ok na =>
    rw [e1] at h h'
    simp only at h h'
    split at h
    · rename_i hs
      rw [if_pos hs] at h'
      exact ⟨h.1.trans h'.1.symm, h.2.1.trans h'.2.1.symm, h.2.2.trans h'.2.2.symm⟩
    · rename_i hs
      rw [if_neg hs] at h'
      cases e2 : readT b with
      | error f1 => rw [e2] at h h'; exact ⟨h.1.trans h'.1.symm, h.2.1.trans h'.2.1.symm, h.2.2.trans h'.2.2.symm⟩
      | ok nb =>
        rw [e2] at h h'
        simp only at h h'
        split at h
        · rename_i hs2
          rw [if_pos hs2] at h'
          exact ⟨h.1.trans h'.1.symm, h.2.1.trans h'.2.1.symm, h.2.2.trans h'.2.2.symm⟩
        · rename_i hs2
          rw [if_neg hs2] at h'
          rcases h with ⟨T, hT, h⟩ | ⟨hn, h⟩
          · rcases h' with ⟨U, hU, h'⟩ | ⟨hn', _⟩
            · obtain ⟨e3, e4⟩ := hT.one dec hU
              rcases h with ⟨g1, g2, g3, g4⟩ | ⟨g1, g2, g3, g4⟩
              · rcases h' with ⟨k1, k2, k3, k4⟩ | ⟨k1, _⟩
                · exact ⟨g2.trans k2.symm, g3.trans k3.symm, g4.trans k4.symm⟩
                · omega
              · rcases h' with ⟨k1, _⟩ | ⟨k1, k2, k3, k4⟩
                · omega
                · exact ⟨by rw [g2, k2, e3], g3.trans k3.symm, g4.trans k4.symm⟩
            · obtain ⟨⟨R, r1, r2⟩, _⟩ := hT
              exact absurd (r1.trans r2.symm) (hn' R)
          · rcases h' with ⟨U, hU, _⟩ | ⟨_, h'⟩
            · obtain ⟨⟨R, r1, r2⟩, _⟩ := hU
              exact absurd (r1.trans r2.symm) (hn R)
            · exact ⟨h.1.trans h'.1.symm, h.2.1.trans h'.2.1.symm, h.2.2.trans h'.2.2.symm⟩
def UnifyPost (a b : ByteArray) (w : World) (e : Ending) (w' : World) : Prop := ∃ z ok f, e = .returned (.tuple #[.string (bs z), .bool ok, flV f]) ∧ Below w.heap.size w w' ∧ UniA a b z ok f
end Go.Proofs.YteneoapickhpdaaGreatDoor
namespace Go.Proofs.YteneoapickhpdaaGreatDoor
open Go Go.RowKit Un

mutual
theorem mean_er : ∀ (nd : Nd) (ns : List ByteArray), mean ns (er nd) = mean ns nd
  | .mk k s n L f t a, ns => by simp only [er, mean, meanL_er L ns]
theorem meanL_er : ∀ (l : List Nd) (ns : List ByteArray), meanL ns (erL l) = meanL ns l
  | [], ns => rfl
  | x :: l, ns => by simp only [erL, meanL, mean_er x ns, meanL_er l]
end
mutual
/-- The type of a part, by the names' places in a list. -/
def nm (M : List ByteArray) : Nd → Ty
  | .mk k s _ L _ _ _ => if k = 16 then .var (ix s M + 1) else .con (conN k s) (nmL M L)
def nmL (M : List ByteArray) : List Nd → List Ty
  | [] => []
  | x :: l => nm M x :: nmL M l
end
mutual
/-- A name of a variable that stands in a part. -/
def Nn (s : ByteArray) : Nd → Prop
  | .mk k s' _ L _ _ _ => if k = 16 then s = s' else NnL s L
def NnL (s : ByteArray) : List Nd → Prop
  | [] => False
  | x :: l => Nn s x ∨ NnL s l
end
theorem addN_mem {s x : ByteArray} {ns : List ByteArray} : x ∈ addN s ns ↔ x ∈ ns ∨ x = s := by
  by_cases h : s ∈ ns
  · rw [addN_in h]
    exact ⟨Or.inl, fun q => q.elim id (fun e => e ▸ h)⟩
  · rw [addN_out h]; simp
theorem addN_pre (s : ByteArray) (ns : List ByteArray) : ns <+: addN s ns := by
  by_cases h : s ∈ ns
  · rw [addN_in h]; exact List.prefix_refl _
  · rw [addN_out h]; exact List.prefix_append _ _
mutual
theorem mean_pre : ∀ (nd : Nd) (ns : List ByteArray), ns <+: (mean ns nd).2
  | .mk k s n L f t a, ns => by
      simp only [mean]
      split
      · exact addN_pre s ns
      · exact meanL_pre L ns
theorem meanL_pre : ∀ (l : List Nd) (ns : List ByteArray), ns <+: (meanL ns l).2
  | [], ns => List.prefix_refl _
  | x :: l, ns => by simp only [meanL]; exact (mean_pre x ns).trans (meanL_pre l _)
end
mutual
theorem mean_mem : ∀ (nd : Nd) (ns : List ByteArray) (x : ByteArray), x ∈ (mean ns nd).2 ↔ x ∈ ns ∨ Nn x nd
  | .mk k s n L f t a, ns, x => by
      simp only [mean, Nn]
      split
      · exact addN_mem
      · exact meanL_mem L ns x
theorem meanL_mem : ∀ (l : List Nd) (ns : List ByteArray) (x : ByteArray), x ∈ (meanL ns l).2 ↔ x ∈ ns ∨ NnL x l
  | [], ns, x => by simp [meanL, NnL]
  | y :: l, ns, x => by simp only [meanL, NnL, meanL_mem l, mean_mem y, or_assoc]
end
theorem addN_nodup {s : ByteArray} {ns : List ByteArray} (h : ns.Nodup) : (addN s ns).Nodup := by
  by_cases e : s ∈ ns
  · rw [addN_in e]; exact h
  · rw [addN_out e]
    rw [List.nodup_append]
    exact ⟨h, by simp, fun a ha b hb e2 => by simp at hb; subst hb; subst e2; exact e ha⟩
mutual
theorem mean_nodup : ∀ (nd : Nd) (ns : List ByteArray), ns.Nodup → (mean ns nd).2.Nodup
  | .mk k s n L f t a, ns, h => by
      simp only [mean]
      split
      · exact addN_nodup h
      · exact meanL_nodup L ns h
theorem meanL_nodup : ∀ (l : List Nd) (ns : List ByteArray), ns.Nodup → (meanL ns l).2.Nodup
  | [], ns, h => h
  | x :: l, ns, h => by simp only [meanL]; exact meanL_nodup l _ (mean_nodup x ns h)
end
theorem ix_pre {s : ByteArray} : ∀ {a b : List ByteArray}, a <+: b → s ∈ a → ix s b = ix s a
  | [], b, h, hs => by simp at hs
  | x :: a, b, h, hs => by
      obtain ⟨r, rfl⟩ := h
      simp only [List.cons_append, ix]
      split
      · rfl
      · rename_i ne
        rcases List.mem_cons.1 hs with e | hs
        · exact absurd (by rw [e]) ne
        · rw [ix_pre (List.prefix_append a r) hs]
mutual
theorem mean_nm : ∀ (nd : Nd) (ns M : List ByteArray), (mean ns nd).2 <+: M → (mean ns nd).1 = nm M nd
  | .mk k s n L f t a, ns, M, h => by
      simp only [mean, nm] at h ⊢
      split
      · rename_i hk
        rw [if_pos hk] at h
        rw [ix_pre h (addN_mem.2 (Or.inr rfl))]
      · rename_i hk
        rw [if_neg hk] at h
        rw [meanL_nm L ns M h]
theorem meanL_nm : ∀ (l : List Nd) (ns M : List ByteArray), (meanL ns l).2 <+: M → (meanL ns l).1 = nmL M l
  | [], ns, M, h => rfl
  | x :: l, ns, M, h => by
      simp only [meanL, nmL] at h ⊢
      rw [mean_nm x ns M ((meanL_pre l _).trans h), meanL_nm l _ M h]
end
theorem ix_get {s : ByteArray} : ∀ {M : List ByteArray}, s ∈ M → M.getD (ix s M) ⟨#[]⟩ = s
  | [], h => by simp at h
  | x :: M, h => by
      simp only [ix]
      split
      · rename_i e; simpa using (toList_injA e)
      · rename_i ne
        rcases List.mem_cons.1 h with e | h
        · exact absurd (by rw [e]) ne
        · simpa using ix_get h
/-- From the places of one list to those of another. -/
def tr (M1 M2 : List ByteArray) (i : Nat) : Nat := ix (M1.getD (i - 1) ⟨#[]⟩) M2 + 1
mutual
theorem nm_tr : ∀ (nd : Nd) (M1 M2 : List ByteArray), (∀ s, Nn s nd → s ∈ M1) → nm M2 nd = sub (ren (tr M1 M2)) (nm M1 nd)
  | .mk k s n L f t a, M1, M2, h => by
      simp only [nm, Nn] at h ⊢
      split
      · rename_i hk
        have := ix_get (h s (by simp [hk]))
        simp only [sub, Un.ren, tr, Nat.add_sub_cancel, this]
      · rename_i hk
        rw [nmL_tr L M1 M2 (fun x hx => h x (by simpa [hk] using hx))]
        simp [sub]
theorem nmL_tr : ∀ (l : List Nd) (M1 M2 : List ByteArray), (∀ s, NnL s l → s ∈ M1) → nmL M2 l = subL (ren (tr M1 M2)) (nmL M1 l)
  | [], M1, M2, h => rfl
  | x :: l, M1, M2, h => by
      simp only [nmL, subL]
      rw [nm_tr x M1 M2 (fun s hs => h s (Or.inl hs)), nmL_tr l M1 M2 (fun s hs => h s (Or.inr hs))]
end
mutual
theorem nm_occ : ∀ (nd : Nd) (M : List ByteArray) (v : Nat), Occ v (nm M nd) → ∃ s, Nn s nd ∧ v = ix s M + 1
  | .mk k s n L f t a, M, v, h => by
      simp only [nm] at h
      split at h
      · rename_i hk
        simp [Occ] at h
        exact ⟨s, by simp [Nn, hk], h.symm⟩
      · rename_i hk
        obtain ⟨x, hx, e⟩ := nmL_occ L M v (by simpa [Occ] using h)
        exact ⟨x, by simpa [Nn, hk] using hx, e⟩
theorem nmL_occ : ∀ (l : List Nd) (M : List ByteArray) (v : Nat), OccL v (nmL M l) → ∃ s, NnL s l ∧ v = ix s M + 1
  | [], M, v, h => by simp [nmL, OccL] at h
  | x :: l, M, v, h => by
      simp only [nmL, OccL] at h
      rcases h with h | h
      · obtain ⟨s, hs, e⟩ := nm_occ x M v h; exact ⟨s, Or.inl hs, e⟩
      · obtain ⟨s, hs, e⟩ := nmL_occ l M v h; exact ⟨s, Or.inr hs, e⟩
end
theorem tr_tr {M1 M2 : List ByteArray} {s : ByteArray} (h1 : s ∈ M1) (h2 : s ∈ M2) : tr M2 M1 (tr M1 M2 (ix s M1 + 1)) = ix s M1 + 1 := by
  simp only [tr, Nat.add_sub_cancel, ix_get h1, ix_get h2]
theorem Un.Mgu.symm {a b T : Ty} (h : Mgu a b T) : Mgu b a T := by
  obtain ⟨⟨R, r1, r2⟩, hm⟩ := h
  exact ⟨⟨R, r2, r1⟩, fun σ e => by obtain ⟨τ, ht⟩ := hm σ e.symm; exact ⟨τ, ht.trans e.symm⟩⟩
/-- Under other names the most general type is as it was. -/
theorem Un.Mgu.ren {a b T : Ty} {ρ ρ' : Nat → Nat} (h : Mgu a b T) (hr : ∀ n, Occ n a ∨ Occ n b → ρ' (ρ n) = n) : Mgu (sub (ren ρ) a) (sub (ren ρ) b) T := by
  obtain ⟨⟨R, r1, r2⟩, hm⟩ := h
  refine ⟨⟨fun n => R (ρ' n), ?_, ?_⟩, fun σ e => ?_⟩
  · rw [sub_sub, ← r1]
    exact sub_congr a fun n hn => by simp [Un.ren, sub, hr n (Or.inl hn)]
  · rw [sub_sub, ← r2]
    exact sub_congr b fun n hn => by simp [Un.ren, sub, hr n (Or.inr hn)]
  · rw [sub_sub, sub_sub] at e
    obtain ⟨τ, ht⟩ := hm _ e
    exact ⟨τ, by rw [sub_sub]; exact ht⟩
mutual
def szN : Nd → Nat
  | .mk k _ _ L _ _ _ => if k = 16 then 1 else 1 + szNL L
def szNL : List Nd → Nat
  | [] => 0
  | x :: l => szN x + szNL l
end
mutual
theorem size_nm : ∀ (nd : Nd) (M : List ByteArray), size (nm M nd) = szN nd
  | .mk k s n L f t a, M => by
      simp only [nm, szN]
      split
      · simp [size]
      · simp [size, sizeL_nm L M]
theorem sizeL_nm : ∀ (l : List Nd) (M : List ByteArray), sizeL (nmL M l) = szNL l
  | [], M => rfl
  | x :: l, M => by simp [nmL, sizeL, szNL, size_nm x M, sizeL_nm l M]
end
theorem size_meanJ (nd : Nd) (ns : List ByteArray) : size (mean ns nd).1 = szN nd := by rw [mean_nm nd ns _ (List.prefix_refl _), size_nm]
end Go.Proofs.YteneoapickhpdaaGreatDoor
namespace Go.Proofs.YteneoapickhpdaaGreatDoor
open Go Go.RowKit Un

/-- An up name. -/
def upNm (c : ByteArray) : Bool := match c.toList with
  | [] => false
  | x :: r => Pu.upB x.toNat && r.all fun y => Pu.nameB y.toNat
/-- Such a name goes with so many parts. -/
def okC (c : ByteArray) (n : Nat) : Bool := if c = nFn then n == 2 else if c = nPr then n == 2 else upNm c
mutual
def Good : Ty → Prop
  | .var _ => True
  | .con c l => okC c l.length = true ∧ GoodL l
def GoodL : List Ty → Prop
  | [] => True
  | t :: l => Good t ∧ GoodL l
end
mutual
/-- A variable in the place of what is not made as it should be. -/
def col : Ty → Ty
  | .var n => .var n
  | .con c l => if okC c l.length = true then .con c (colL l) else .var 0
def colL : List Ty → List Ty
  | [] => []
  | t :: l => col t :: colL l
end
theorem colL_len : ∀ l, (colL l).length = l.length
  | [] => rfl
  | t :: l => by simp [colL, colL_len l]
mutual
theorem col_sub (σ : Nat → Ty) : ∀ t, Good t → col (sub σ t) = sub (fun n => col (σ n)) t
  | .var n, _ => rfl
  | .con c l, h => by
      simp only [Good] at h
      simp only [sub, col, subL_length, h.1, if_true, colL_sub σ l h.2]
theorem colL_sub (σ : Nat → Ty) : ∀ l, GoodL l → colL (subL σ l) = subL (fun n => col (σ n)) l
  | [], _ => rfl
  | t :: l, h => by
      simp only [GoodL] at h
      simp only [subL, colL, col_sub σ t h.1, colL_sub σ l h.2]
end
mutual
theorem good_col : ∀ t, Good (col t)
  | .var n => by simp [col, Good]
  | .con c l => by
      simp only [col]
      split
      · rename_i h
        exact ⟨by rw [colL_len]; exact h, good_colL l⟩
      · simp [Good]
theorem good_colL : ∀ l, GoodL (colL l)
  | [] => trivial
  | t :: l => ⟨good_col t, good_colL l⟩
end
mutual
theorem good_of_sub (τ : Nat → Ty) : ∀ t, Good (sub τ t) → Good t
  | .var n, _ => trivial
  | .con c l, h => by
      simp only [sub, Good, subL_length] at h ⊢
      exact ⟨h.1, good_of_subL τ l h.2⟩
theorem good_of_subL (τ : Nat → Ty) : ∀ l, GoodL (subL τ l) → GoodL l
  | [], _ => trivial
  | t :: l, h => by
      simp only [subL, GoodL] at h
      exact ⟨good_of_sub τ t h.1, good_of_subL τ l h.2⟩
end
/-- What two types have in common is made as they are. -/
theorem Un.Mgu.good {a b T : Ty} (h : Mgu a b T) (ha : Good a) (hb : Good b) : Good T := by
  obtain ⟨⟨R, r1, r2⟩, hm⟩ := h
  obtain ⟨τ, ht⟩ := hm (fun n => col (R n)) (by rw [← col_sub R a ha, ← col_sub R b hb, r1, r2])
  refine good_of_sub τ T ?_
  rw [ht, ← col_sub R a ha]
  exact good_col _

theorem dg_name (n : Nat) : Pu.nameB (dg n).toNat = true := by
  have h : (dg n).toNat = 48 + n % 10 := by simp [dg]; omega
  rw [h]
  have : n % 10 < 10 := Nat.mod_lt _ (by omega)
  simp [Pu.nameB, Pu.digB]
  omega
theorem dec_name (n : Nat) : ∀ y ∈ dec n, Pu.nameB y.toNat = true := by
  induction n using Nat.strongRecOn with
  | _ n ih =>
    rw [dec]
    split
    · intro y hy; simp at hy; subst hy; exact dg_name n
    · intro y hy
      rcases List.mem_append.1 hy with hy | hy
      · exact ih (n / 10) (by omega) y hy
      · simp at hy; subst hy; exact dg_name n
def valD (l : List UInt8) : Nat := l.foldl (fun a d => 10 * a + (d.toNat - 48)) 0
theorem dec_val (n : Nat) : valD (dec n) = n := by
  induction n using Nat.strongRecOn with
  | _ n ih =>
    have h : (dg n).toNat = 48 + n % 10 := by simp [dg]; omega
    rw [dec]
    split
    · simp [valD, h]; omega
    · have := ih (n / 10) (by omega)
      unfold valD at this ⊢
      rw [List.foldl_append, this]
      simp [h]
      omega
theorem dec_inj {m n : Nat} (h : dec m = dec n) : m = n := by rw [← dec_val m, h, dec_val]
/-- The name of the variable at a place. -/
def vn (i : Nat) : ByteArray := bs (39 :: 118 :: dec i)
theorem bs_inj {a b : List UInt8} (h : bs a = bs b) : a = b := by
  have := congrArg ByteArray.toList h
  unfold bs at this
  rwa [toList_mk, toList_mk] at this
theorem vn_inj {i j : Nat} (h : vn i = vn j) : i = j := dec_inj (by simpa using bs_inj h)
theorem v_word (r : List UInt8) : Pu.wordB ⟨(118 :: r).toArray⟩ = false := by
  unfold Pu.wordB
  rw [toList_mk, List.any_eq_false]
  intro x hx
  have : ∀ l : List UInt8, l.head? ≠ some 118 → ¬ (l == 118 :: r) = true := fun l hl e => by
    rw [beq_iff_eq] at e
    subst e
    simp at hl
  simp only [Pu.words, List.mem_cons, List.not_mem_nil, or_false] at hx
  rcases hx with rfl | rfl | rfl | rfl | rfl | rfl | rfl | rfl | rfl | rfl | rfl | rfl | rfl <;> exact this _ (by rw [ByteArray.toList_eq]; decide)
theorem lx_vn (i : Nat) : Lx true (39 :: 118 :: dec i) [(3, (vn i).toList)] := by
  have : (vn i).toList = 39 :: 118 :: dec i := toList_mk _
  rw [this]
  exact lx_var 118 (dec i) (by decide) (dec_name i) (v_word _)
theorem up_parts {c : ByteArray} (h : upNm c = true) : Lx true c.toList [(2, c.toList)] := by
  unfold upNm at h
  cases e : c.toList with
  | nil => rw [e] at h; simp at h
  | cons x r =>
    rw [e] at h
    simp at h
    exact lx_up x r h.1 (by simpa using h.2)
mutual
/-- What is written, as it is read. -/
def syW (L : List Nat) : Ty → Nd
  | .var n => sVar (vn (L.idxOf n))
  | .con c l => if c = nFn then .mk 17 kNo 0 (syWL L l) 0 0 0 else if c = nPr then .mk 6 kNo 0 (syWL L l) 0 0 0 else sUp c (syWL L l)
def syWL (L : List Nat) : List Ty → List Nd
  | [] => []
  | t :: l => syW L t :: syWL L l
end
def lvl (tight : Nat) : Nat := if tight = 0 then 2 else if tight = 1 then 1 else 0
/-- Bytes that are read as a part, at a level. -/
def Rd (v : Nat) (l : List UInt8) (t : Nd) : Prop := ∃ p, Lx true l p ∧ Gr v p t
theorem Rd.lv {l : List UInt8} {t : Nd} (h : Rd 0 l t) (tight : Nat) : Rd (lvl tight) l t := by
  obtain ⟨p, h1, h2⟩ := h
  unfold lvl
  split
  · exact ⟨p, h1, .head h2.up1⟩
  · split
    · exact ⟨p, h1, h2.up1⟩
    · exact ⟨p, h1, h2⟩
theorem Rd.par {l : List UInt8} {t : Nd} (h : Rd 2 l t) : Rd 0 (40 :: (l ++ [41])) t := by
  obtain ⟨p, h1, h2⟩ := h
  refine ⟨yOpen :: (p ++ [yClose]), ?_, .par h2⟩
  have := (lx_sign 40 (by simp)).app (h1.app (lx_sign 41 (by simp)) (fun _ => ⟨41, [], rfl, by decide⟩)) (fun e => by cases e)
  exact this.weak
theorem Rd.pair {l m : List UInt8} {t u : Nd} (h : Rd 2 l t) (k : Rd 2 m u) : Rd 0 (40 :: (l ++ ([44, 32] ++ (m ++ [41])))) (sPair t u) := by
  obtain ⟨p, h1, h2⟩ := h
  obtain ⟨q, k1, k2⟩ := k
  refine ⟨_, ?_, .pair h2 k2⟩
  have e1 := k1.app (lx_sign 41 (by simp)) (fun _ => ⟨41, [], rfl, by decide⟩)
  have e2 := (lx_sign 44 (by simp)).app (lx_blank.app e1 (fun e => by cases e)) (fun e => by cases e)
  have e3 := h1.app e2 (fun _ => ⟨44, _, rfl, by decide⟩)
  have e4 := (lx_sign 40 (by simp)).app e3 (fun e => by cases e)
  exact e4.weak
theorem Rd.fn {l m : List UInt8} {t u : Nd} (h : Rd 1 l t) (k : Rd 2 m u) : Rd 2 (l ++ ([32, 45, 62, 32] ++ m)) (sFn t u) := by
  obtain ⟨p, h1, h2⟩ := h
  obtain ⟨q, k1, k2⟩ := k
  refine ⟨_, ?_, .arrow h2 k2⟩
  have e1 := lx_blank.app (lx_arrow.app (lx_blank.app k1 (fun e => by cases e)) (fun e => by cases e)) (fun e => by cases e)
  exact h1.app e1 (fun _ => ⟨32, _, rfl, by decide⟩)
theorem Rd.arg {l m : List UInt8} {s : ByteArray} {L : List Nd} {u : Nd} (h : Rd 3 l (sUp s L)) (k : Rd 0 m u) : Rd 3 (l ++ (32 :: m)) (sUp s (L ++ [u])) := by
  obtain ⟨p, h1, h2⟩ := h
  obtain ⟨q, k1, k2⟩ := k
  refine ⟨_, ?_, .arg h2 k2⟩
  exact h1.app (lx_blank.app k1 (fun e => by cases e)) (fun _ => ⟨32, _, rfl, by decide⟩)
theorem Rd.app {l : List UInt8} {t : Nd} (h : Rd 3 l t) : Rd 1 l t := by
  obtain ⟨p, h1, h2⟩ := h
  exact ⟨p, h1, .app h2⟩
theorem Rd.head {l : List UInt8} {t : Nd} (h : Rd 1 l t) : Rd 2 l t := by
  obtain ⟨p, h1, h2⟩ := h
  exact ⟨p, h1, .head h2⟩
/-- A name and its parts. -/
theorem rd_args {c : ByteArray} : ∀ (ps : List (Nat → List UInt8)) (us : List Nd) (l : List UInt8) (L : List Nd), ps.length = us.length → (∀ i (h : i < ps.length) (h2 : i < us.length), Rd 0 (ps[i] 2) us[i]) → Rd 3 l (sUp c L) → Rd 3 (l ++ ps.flatMap fun p => 32 :: p 2) (sUp c (L ++ us))
  | [], [], l, L, _, _, h => by simpa using h
  | [], u :: us, l, L, e, _, h => by simp at e
  | p :: ps, [], l, L, e, _, h => by simp at e
  | p :: ps, u :: us, l, L, e, hp, h => by
      have h1 := rd_args ps us (l ++ (32 :: p 2)) (L ++ [u]) (by simpa using e) (fun i q q2 => hp (i + 1) (by simpa using q) (by simpa using q2)) (h.arg (hp 0 (by simp) (by simp)))
      simpa [List.append_assoc] using h1
theorem wrA_get (L : List Nat) : ∀ (l : List Ty) (i : Nat) (h : i < l.length), (wrA dec L l)[i]'(by rw [wrA_length]; exact h) = wr dec L l[i] := by
  intro l i h
  simp [wrA_map]
theorem syWL_len (L : List Nat) : ∀ l, (syWL L l).length = l.length
  | [] => rfl
  | t :: l => by simp [syWL, syWL_len L l]
theorem syWL_get (L : List Nat) : ∀ (l : List Ty) (i : Nat) (h : i < l.length), (syWL L l)[i]'(by rw [syWL_len]; exact h) = syW L l[i]
  | t :: l, 0, h => rfl
  | t :: l, i + 1, h => by simpa [syWL] using syWL_get L l i (by simpa using h)
mutual
/-- What is written is read as it was. -/
theorem wr_read (L : List Nat) : ∀ (t : Ty), Good t → ∀ tight, tight ≤ 2 → Rd (lvl tight) (wr dec L t tight) (syW L t)
  | .var n, _, tight, _ => by
      simp only [wr, syW]
      exact Rd.lv ⟨_, lx_vn _, .var _⟩ tight
  | .con c l, h, tight, ht => by
      simp only [Good] at h
      obtain ⟨h1, h2⟩ := h
      have ih := wr_readL L l h2
      simp only [wr, joined, syW]
      unfold okC at h1
      by_cases e1 : c = nFn
      · rw [if_pos e1] at h1
        rw [if_pos e1, if_pos e1]
        match l, h1, ih with
        | [a, b], _, ih =>
          have r1 := ih 0 (by simp) 1 (by omega)
          have r2 := ih 1 (by simp) 0 (by omega)
          have r3 : Rd 2 _ (sFn (syW L a) (syW L b)) := Rd.fn r1 r2
          by_cases h0 : 0 < tight
          · rw [show decide (0 < tight) = true by simpa using h0]
            exact r3.par.lv tight
          · obtain rfl : tight = 0 := by omega
            exact r3
        | [], h1, _ => simp at h1
        | [_], h1, _ => simp at h1
        | _ :: _ :: _ :: _, h1, _ => simp at h1
      · rw [if_neg e1] at h1
        rw [if_neg e1, if_neg e1]
        by_cases e2 : c = nPr
        · rw [if_pos e2] at h1
          rw [if_pos e2, if_pos e2]
          match l, h1, ih with
          | [a, b], _, ih =>
            have r1 := ih 0 (by simp) 0 (by omega)
            have r2 := ih 1 (by simp) 0 (by omega)
            exact (Rd.pair r1 r2).lv tight
          | [], h1, _ => simp at h1
          | [_], h1, _ => simp at h1
          | _ :: _ :: _ :: _, h1, _ => simp at h1
        · rw [if_neg e2] at h1
          rw [if_neg e2, if_neg e2]
          have r0 : Rd 3 c.toList (sUp c []) := ⟨_, up_parts h1, .up c⟩
          have r1 := rd_args (wrA dec L l) (syWL L l) c.toList [] (by rw [wrA_length, syWL_len]) (fun i q q2 => by
            have hl : i < l.length := by rw [wrA_length] at q; exact q
            rw [wrA_get L l i hl, syWL_get L l i hl]
            exact ih i hl 2 (by omega)) r0
          simp only [List.nil_append] at r1
          cases hq : (decide (1 < tight) && !(wrA dec L l).isEmpty) with
          | true => exact r1.app.head.par.lv tight
          | false =>
            simp only [par, Bool.false_eq_true, if_false]
            by_cases h1' : tight = 0
            · subst h1'; exact r1.app.head
            · by_cases h2' : tight = 1
              · subst h2'; exact r1.app
              · obtain rfl : tight = 2 := by omega
                have hemp : wrA dec L l = [] := by simpa using hq
                have hl : l = [] := by have := congrArg List.length hemp; rw [wrA_length] at this; simpa using this
                subst hl
                refine ⟨_, ?_, .up0 c⟩
                simpa [wrA] using up_parts h1
theorem wr_readL (L : List Nat) : ∀ (l : List Ty), GoodL l → ∀ i (h : i < l.length) tight, tight ≤ 2 → Rd (lvl tight) (wr dec L l[i] tight) (syW L l[i])
  | t :: l, h, 0, _, tight, ht => wr_read L t h.1 tight ht
  | t :: l, h, i + 1, hi, tight, ht => by simpa using wr_readL L l h.2 i (by simpa using hi) tight ht
end
end Go.Proofs.YteneoapickhpdaaGreatDoor
namespace Go.Proofs.YteneoapickhpdaaGreatDoor
open Go Go.RowKit Un
theorem ix_ge {s : ByteArray} : ∀ {a b : List ByteArray}, a <+: b → ¬ s ∈ a → a.length ≤ ix s b
  | [], b, _, _ => Nat.zero_le _
  | x :: a, b, h, hs => by
      obtain ⟨r, rfl⟩ := h
      simp only [List.cons_append, ix]
      split
      · rename_i e; exact absurd (List.mem_cons.2 (Or.inl (toList_injA e).symm)) hs
      · have := ix_ge (List.prefix_append a r) (fun q => hs (List.mem_cons_of_mem _ q)); simp; omega
/-- The first names. -/
def VNm (k : Nat) : List ByteArray := (List.range k).map vn
theorem VNm_succ (k : Nat) : VNm (k + 1) = VNm k ++ [vn k] := by simp [VNm, List.range_succ]
theorem VNm_len (k : Nat) : (VNm k).length = k := by simp [VNm]
theorem VNm_mem {k i : Nat} : vn i ∈ VNm k ↔ i < k := by
  simp only [VNm, List.mem_map, List.mem_range]
  constructor
  · rintro ⟨a, ha, e⟩; rw [← vn_inj e]; exact ha
  · exact fun h => ⟨i, h, rfl⟩
theorem VNm_pre {a b : Nat} (h : a ≤ b) : VNm a <+: VNm b := by
  obtain ⟨d, rfl⟩ : ∃ d, b = a + d := ⟨b - a, by omega⟩
  clear h
  induction d with
  | zero => exact List.prefix_refl _
  | succ d ih => rw [← Nat.add_assoc, VNm_succ]; exact ih.trans (List.prefix_append _ _)
theorem ix_VNm {k i : Nat} (h : i < k) : ix (vn i) (VNm k) = i := by
  have h1 : vn i ∈ VNm (i + 1) := VNm_mem.2 (by omega)
  rw [ix_pre (VNm_pre (by omega)) h1, VNm_succ, ix_snoc (fun q => by have := VNm_mem.1 q; omega), VNm_len]
mutual
theorem mean_syW (L : List Nat) (hL : L.Nodup) : ∀ (t : Ty) (l : List Nat), vars l t <+: L → mean (VNm l.length) (syW L t) = (sub (ren fun n => L.idxOf n + 1) t, VNm (vars l t).length)
  | .var n, l, h => by
      simp only [vars] at h
      simp only [syW, sVar, mean, if_true, sub, Un.ren, vars]
      have hi : L.idxOf n < (Un.seen l n).length := by
        have hm : n ∈ Un.seen l n := mem_seen.2 (Or.inr rfl)
        rw [idx_pre h hm]
        exact List.idxOf_lt_length_iff.2 hm
      by_cases hn : n ∈ l
      · have e : Un.seen l n = l := by rw [Un.seen, if_pos hn]
        rw [e] at hi ⊢
        rw [addN_in (VNm_mem.2 hi), ix_VNm hi]
      · have e : Un.seen l n = l ++ [n] := by rw [Un.seen, if_neg hn]
        have hx : L.idxOf n = l.length := by
          rw [idx_pre h (by rw [e]; simp), e, List.idxOf_append, if_neg hn]
          simp
        rw [e, hx, addN_out (fun q => by have := VNm_mem.1 q; omega)]
        rw [show (l ++ [n]).length = l.length + 1 by simp, ← VNm_succ, ix_VNm (by omega)]
  | .con c l', l, h => by
      simp only [vars] at h
      have ih := meanL_syW L hL l' l h
      simp only [syW, vars, sub]
      by_cases e1 : c = nFn
      · rw [if_pos e1]
        simp [mean, conN, ih, e1]
      · rw [if_neg e1]
        by_cases e2 : c = nPr
        · rw [if_pos e2]
          simp [mean, conN, ih, e2]
        · rw [if_neg e2]
          simp [sUp, mean, conN, ih]
theorem meanL_syW (L : List Nat) (hL : L.Nodup) : ∀ (l' : List Ty) (l : List Nat), varsL l l' <+: L → meanL (VNm l.length) (syWL L l') = (subL (ren fun n => L.idxOf n + 1) l', VNm (varsL l l').length)
  | [], l, h => by simp [syWL, meanL, subL, varsL]
  | t :: l', l, h => by
      simp only [varsL] at h
      have h1 := mean_syW L hL t l ((varsL_pre l' _).trans h)
      have h2 := meanL_syW L hL l' (vars l t) h
      simp only [syWL, meanL, h1, h2, subL, varsL]
end
/-- What is written is read as the same type, its variables numbered. -/
theorem read_written {T : Ty} (hg : Good T) (hz : (Un.written dec T).length ≤ 400) : ∃ nd, readT (bs (Un.written dec T)) = .ok nd ∧ mean [] nd = (sub (ren fun n => (vars [] T).idxOf n + 1) T, VNm (vars [] T).length) := by
  obtain ⟨p, h1, h2⟩ := wr_read (vars [] T) T hg 0 (by omega)
  obtain ⟨nd, e, er1⟩ := readT_of h1 h2 hz
  refine ⟨nd, e, ?_⟩
  rw [← mean_er nd [], er1]
  have := mean_syW (vars [] T) (nodup_vars T List.nodup_nil) T [] (List.prefix_refl _)
  simpa [VNm] using this
section
variable {a b : ByteArray} {na nb : Nd}
theorem mean_two (na nb : Nd) : (mean [] na).1 = nm (mean (mean [] na).2 nb).2 na ∧ (mean (mean [] na).2 nb).1 = nm (mean (mean [] na).2 nb).2 nb :=
  ⟨mean_nm na [] _ (mean_pre nb _), mean_nm nb _ _ (List.prefix_refl _)⟩
/-- Unify, of two texts that are read and are small. -/
theorem uniA_iff (ha : readT a = .ok na) (hb : readT b = .ok nb) (sa : szN na ≤ 48) (sb : szN nb ≤ 48) (z : List UInt8) (ok : Bool) (f : Fl) : UniA a b z ok f ↔
    (∃ T, Mgu (nm (mean (mean [] na).2 nb).2 na) (nm (mean (mean [] na).2 nb).2 nb) T ∧ ((48 < size T ∧ z = [] ∧ ok = false ∧ f = ⟨7, 0, 0⟩) ∨ (¬ 48 < size T ∧ z = Un.written dec T ∧ ok = true ∧ f = noFl))) ∨
      ((∀ σ, sub σ (nm (mean (mean [] na).2 nb).2 na) ≠ sub σ (nm (mean (mean [] na).2 nb).2 nb)) ∧ z = [] ∧ ok = false ∧ f = noFl) := by
  unfold UniA
  rw [ha, hb]
  simp only [size_meanJ, show ¬ 48 < szN na by omega, show ¬ 48 < szN nb by omega, if_false]
  rw [(mean_two na nb).1, (mean_two na nb).2]
theorem names_two (na nb : Nd) (s : ByteArray) : s ∈ (mean (mean [] na).2 nb).2 ↔ Nn s na ∨ Nn s nb := by
  rw [mean_mem, mean_mem]; simp
/-- The same whichever side comes first. -/
theorem UniA.swap (ha : readT a = .ok na) (hb : readT b = .ok nb) (sa : szN na ≤ 48) (sb : szN nb ≤ 48) {z : List UInt8} {ok : Bool} {f : Fl} (h : UniA a b z ok f) : UniA b a z ok f := by
  rw [uniA_iff ha hb sa sb] at h
  rw [uniA_iff hb ha sb sa]
  have m1 := names_two na nb
  have m2 := names_two nb na
  generalize (mean (mean [] na).2 nb).2 = M1 at *
  generalize (mean (mean [] nb).2 na).2 = M2 at *
  have ea := nm_tr na M1 M2 (fun s hs => (m1 s).2 (Or.inl hs))
  have eb := nm_tr nb M1 M2 (fun s hs => (m1 s).2 (Or.inr hs))
  have hinv : ∀ n, Occ n (nm M1 na) ∨ Occ n (nm M1 nb) → tr M2 M1 (tr M1 M2 n) = n := by
    rintro n (h | h)
    · obtain ⟨s, hs, rfl⟩ := nm_occ na M1 n h
      exact tr_tr ((m1 s).2 (Or.inl hs)) ((m2 s).2 (Or.inr hs))
    · obtain ⟨s, hs, rfl⟩ := nm_occ nb M1 n h
      exact tr_tr ((m1 s).2 (Or.inr hs)) ((m2 s).2 (Or.inl hs))
  rcases h with ⟨T, hT, h⟩ | ⟨hn, h⟩
  · refine Or.inl ⟨T, ?_, h⟩
    rw [ea, eb]
    exact (hT.ren hinv).symm
  · refine Or.inr ⟨fun σ e => ?_, h⟩
    rw [ea, eb, sub_sub, sub_sub] at e
    exact hn _ e.symm
/-- A type is made one with itself. -/
theorem UniA.self (ha : readT a = .ok na) (sa : szN na ≤ 48) : UniA a a (Un.written dec (mean [] na).1) true noFl := by
  rw [uniA_iff ha ha sa sa, (mean_two na na).1]
  exact Or.inl ⟨_, ⟨⟨Ty.var, sub_var _, sub_var _⟩, fun σ _ => ⟨σ, rfl⟩⟩, Or.inr ⟨by rw [size_nm]; omega, rfl, rfl, rfl⟩⟩
theorem canon_self (ha : readT a = .ok na) (sa : szN na ≤ 48) : canonA a = (Un.written dec (mean [] na).1, noFl) := by
  unfold canonA
  rw [ha]
  simp only [size_meanJ, show ¬ 48 < szN na by omega, if_false]
/-- What comes of a type is made one with it, and is itself. -/
theorem uni_ends {M : List ByteArray} {R : Nat → Ty} (ha : readT a = .ok na) (sa : szN na ≤ 48) (hM : ∀ s, Nn s na → s ∈ M) (hv : ∀ s i, Nn s na → s ≠ vn i) (hg : Good (sub R (nm M na))) (hz : size (sub R (nm M na)) ≤ 48) (hl : (Un.written dec (sub R (nm M na))).length ≤ 400) :
    UniA (bs (Un.written dec (sub R (nm M na)))) a (Un.written dec (sub R (nm M na))) true noFl := by
  obtain ⟨nd, e, hm⟩ := read_written hg hl
  generalize hT : sub R (nm M na) = T at *
  have hme := names_two nd na
  obtain ⟨e1, e2⟩ := mean_two nd na
  have hs : szN nd ≤ 48 := by rw [← size_meanJ nd [], hm]; rw [size_ren]; exact hz
  rw [uniA_iff e ha hs sa, ← e1, ← e2]
  simp only [hm] at *
  have hpre := mean_pre na (VNm (vars [] T).length)
  have hmem := mean_mem na (VNm (vars [] T).length)
  rw [e2]
  generalize (mean (VNm (vars [] T).length) na).2 = M3 at *
  have et := nm_tr na M M3 hM
  have hidx : ∀ n, Occ n T → (vars [] T).idxOf n < (vars [] T).length := fun n hn => List.idxOf_lt_length_iff.2 ((mem_vars T [] n).2 (Or.inr hn))
  have hR : Ren (fun n => (vars [] T).idxOf n + 1) (vars [] T) := fun m hm n hn q => by
    have q : (vars [] T).idxOf m = (vars [] T).idxOf n := by simpa using q
    have h1 := List.getElem_idxOf (List.idxOf_lt_length_iff.2 hm)
    have h2 := List.getElem_idxOf (List.idxOf_lt_length_iff.2 hn)
    rw [← h1, ← h2]
    simp [q]
  refine Or.inl ⟨sub (ren fun n => (vars [] T).idxOf n + 1) T, ⟨⟨fun n => if n ≤ (vars [] T).length then .var n else sub (ren fun n => (vars [] T).idxOf n + 1) (R (tr M3 M n)), ?_, ?_⟩, fun σ _ => ⟨σ, rfl⟩⟩, Or.inr ⟨by rw [size_ren]; omega, (written_ren dec hR).symm, by simp, by simp⟩⟩
  · rw [sub_sub]
    refine sub_congr T fun n hn => ?_
    have := hidx n hn
    simp only [Un.ren, sub]
    rw [if_pos (by omega)]
  · rw [et, sub_sub]
    rw [show sub (ren fun n => (vars [] T).idxOf n + 1) T = sub (fun n => sub (ren fun n => (vars [] T).idxOf n + 1) (R n)) (nm M na) by rw [← sub_sub, hT]]
    refine sub_congr _ fun n hn => ?_
    obtain ⟨s, hs2, rfl⟩ := nm_occ na M n hn
    have h3 : s ∈ M3 := (hmem s).2 (Or.inr hs2)
    have h4 : (vars [] T).length ≤ ix s M3 := by
      have hns : ¬ s ∈ VNm (vars [] T).length := fun q => by
        simp only [VNm, List.mem_map] at q
        obtain ⟨i, _, ei⟩ := q
        exact hv s i hs2 ei.symm
      have := ix_ge hpre hns
      rwa [VNm_len] at this
    simp only [Un.ren, sub]
    have h5 : tr M M3 (ix s M + 1) = ix s M3 + 1 := by simp only [tr, Nat.add_sub_cancel, ix_get (hM s hs2)]
    rw [if_neg (by rw [h5]; omega), tr_tr (hM s hs2) h3]
end
end Go.Proofs.YteneoapickhpdaaGreatDoor
namespace Go.Proofs.YteneoapickhpdaaGreatDoor
open Go Go.RowKit Un
mutual
theorem szN_er : ∀ nd, szN (er nd) = szN nd
  | .mk k s n L f t a => by simp only [er, szN, szNL_er L]
theorem szNL_er : ∀ l, szNL (erL l) = szNL l
  | [] => rfl
  | x :: l => by simp only [erL, szNL, szN_er x, szNL_er l]
end
mutual
theorem nm_er (M : List ByteArray) : ∀ nd, nm M (er nd) = nm M nd
  | .mk k s n L f t a => by simp only [er, nm, nmL_er M L]
theorem nmL_er (M : List ByteArray) : ∀ l, nmL M (erL l) = nmL M l
  | [] => rfl
  | x :: l => by simp only [erL, nmL, nm_er M x, nmL_er M l]
end
mutual
theorem Nn_er (s : ByteArray) : ∀ nd, Nn s (er nd) ↔ Nn s nd
  | .mk k s' n L f t a => by simp only [er, Nn, NnL_er s L]
theorem NnL_er (s : ByteArray) : ∀ l, NnL s (erL l) ↔ NnL s l
  | [] => Iff.rfl
  | x :: l => by simp only [erL, NnL, Nn_er s x, NnL_er s l]
end
def sB : Nat → Nat
  | 0 => 1
  | d + 1 => 2 * sB d + 1
def lB : Nat → Nat
  | 0 => 4
  | d + 1 => 2 * lB d + 6
theorem sB_pos : ∀ d, 1 ≤ sB d
  | 0 => by simp [sB]
  | d + 1 => by simp [sB]
theorem lB_pos : ∀ d, 4 ≤ lB d
  | 0 => by simp [lB]
  | d + 1 => by have := lB_pos d; unfold lB; omega
/-- The text of a made type, so deep at most. -/
structure Md (d : Nat) (l : List UInt8) (nd : Nd) : Prop where
  rd : Rd 0 l nd
  sz : szN nd ≤ sB d
  len : l.length ≤ lB d
  good : ∀ M, Good (nm M nd)
  names : ∀ s i, Nn s nd → s ≠ vn i
theorem upNm_of {c : List UInt8} (h : (match c with | [] => false | x :: r => Pu.upB x.toNat && r.all fun y => Pu.nameB y.toNat) = true) : upNm (bs c) = true := by
  unfold upNm
  rw [show (bs c).toList = c from toList_mk c]
  exact h
theorem okC_up {c : ByteArray} (n : Nat) (h : upNm c = true) : okC c n = true := by
  unfold okC
  have h1 : c ≠ nFn := by
    rintro rfl
    unfold upNm at h
    rw [show nFn.toList = [62] from toList_mk [62]] at h
    exact absurd h (by decide)
  have h2 : c ≠ nPr := by
    rintro rfl
    unfold upNm at h
    rw [show nPr.toList = [44] from toList_mk [44]] at h
    exact absurd h (by decide)
  rw [if_neg h1, if_neg h2]
  exact h
theorem Md.up (d : Nat) (c : List UInt8) (h : upNm (bs c) = true) (hl : c.length ≤ 4) : Md d c (sUp (bs c) []) := by
  have e : (bs c).toList = c := toList_mk c
  refine ⟨⟨[(2, (bs c).toList)], ?_, .up0 _⟩, by simpa [szN, sUp, szNL] using sB_pos d, Nat.le_trans hl (lB_pos d), fun M => ?_, fun s i hs => by simp [sUp, Nn, NnL] at hs⟩
  · have := up_parts h
    rwa [e] at this ⊢
  · simp only [sUp, nm, show ¬ (2 = 16) by decide, if_false, conN, show ¬ (2 = 17) by decide, show ¬ (2 = 6) by decide, nmL, Good, GoodL]
    exact ⟨okC_up _ h, trivial⟩
theorem Md.var (d : Nat) (x : UInt8) (hx : Pu.lowB x.toNat = true) (hw : Pu.wordB ⟨[x].toArray⟩ = false) (hv : x ≠ 118) : Md d [39, x] (sVar (bs [39, x])) := by
  have e : (bs [39, x]).toList = [39, x] := toList_mk _
  refine ⟨⟨[(3, (bs [39, x]).toList)], ?_, .var _⟩, by simpa [szN, sVar] using sB_pos d, Nat.le_trans (by simp) (lB_pos d), fun M => ?_, fun s i hs => ?_⟩
  · rw [e]; exact lx_var x [] hx (by simp) hw
  · simp [sVar, nm, Good]
  · simp [sVar, Nn] at hs
    subst hs
    intro q
    have := bs_inj q
    simp at this
    exact hv this.1
abbrev bL : ByteArray := bs [76]
theorem Md.list {d : Nat} {l : List UInt8} {nd : Nd} (h : Md d l nd) : Md (d + 1) ([40, 76, 32] ++ l ++ [41]) (sUp bL [nd]) := by
  have hu : upNm bL = true := upNm_of (by decide)
  have e : bL.toList = [76] := toList_mk _
  refine ⟨?_, ?_, ?_, fun M => ?_, fun s i hs => ?_⟩
  · have r0 : Rd 3 [76] (sUp bL []) := ⟨[(2, bL.toList)], by have := up_parts hu; rwa [e] at this ⊢, .up bL⟩
    have := (r0.arg h.rd).app.head.par
    simpa using this
  · have := h.sz; simp [szN, sUp, szNL, sB]; omega
  · have := h.len; simp [lB]; omega
  · simp only [sUp, nm, show ¬ (2 = 16) by decide, if_false, conN, show ¬ (2 = 17) by decide, show ¬ (2 = 6) by decide, nmL, Good, GoodL]
    exact ⟨okC_up _ hu, h.good M, trivial⟩
  · simp [sUp, Nn, NnL] at hs
    exact h.names s i hs
theorem Md.fn {d : Nat} {l m : List UInt8} {x y : Nd} (h : Md d l x) (k : Md d m y) : Md (d + 1) ([40] ++ l ++ [32, 45, 62, 32] ++ m ++ [41]) (sFn x y) := by
  refine ⟨?_, ?_, ?_, fun M => ?_, fun s i hs => ?_⟩
  · have := (Rd.fn (h.rd.lv 1) (k.rd.lv 0)).par
    simpa [List.append_assoc] using this
  · have := h.sz; have := k.sz; simp [szN, sFn, szNL, sB]; omega
  · have := h.len; have := k.len; simp [lB]; omega
  · simp only [sFn, nm, show ¬ (17 = 16) by decide, if_false, conN, if_true, nmL, Good, GoodL]
    exact ⟨by unfold okC; simp, h.good M, k.good M, trivial⟩
  · simp [sFn, Nn, NnL] at hs
    rcases hs with hs | hs
    · exact h.names s i hs
    · exact k.names s i hs
theorem Md.pr {d : Nat} {l m : List UInt8} {x y : Nd} (h : Md d l x) (k : Md d m y) : Md (d + 1) ([40] ++ l ++ [44, 32] ++ m ++ [41]) (sPair x y) := by
  refine ⟨?_, ?_, ?_, fun M => ?_, fun s i hs => ?_⟩
  · have := Rd.pair (h.rd.lv 0) (k.rd.lv 0)
    simpa [List.append_assoc] using this
  · have := h.sz; have := k.sz; simp [szN, sPair, szNL, sB]; omega
  · have := h.len; have := k.len; simp [lB]; omega
  · simp only [sPair, nm, show ¬ (6 = 16) by decide, if_false, conN, show ¬ (6 = 17) by decide, if_true, nmL, Good, GoodL]
    exact ⟨by unfold okC; simp, h.good M, k.good M, trivial⟩
  · simp [sPair, Nn, NnL] at hs
    rcases hs with hs | hs
    · exact h.names s i hs
    · exact k.names s i hs
/-- A made text is read. -/
theorem Md.read {l : List UInt8} {nd : Nd} (h : Md 3 l nd) : ∃ n, readT (bs l) = .ok n ∧ szN n ≤ 48 ∧ (∀ M, Good (nm M n)) ∧ ∀ s i, Nn s n → s ≠ vn i := by
  obtain ⟨p, h1, h2⟩ := h.rd.lv 0
  have hl := h.len
  have hs := h.sz
  simp [lB] at hl
  simp [sB] at hs
  obtain ⟨n, e, hn⟩ := readT_of h1 h2 (by omega)
  subst hn
  refine ⟨n, e, by rw [szN_er] at hs; omega, fun M => by rw [← nm_er]; exact h.good M, fun s i q => h.names s i ((Nn_er s n).2 q)⟩
/-- What Unify gives of two made texts. -/
theorem md_uni {l m : List UInt8} {x y : Nd} (h : Md 3 l x) (k : Md 3 m y) {z : List UInt8} {ok : Bool} {f : Fl} (hu : UniA (bs l) (bs m) z ok f) :
    (f = ⟨7, 0, 0⟩ ∧ z = [] ∧ ok = false) ∨ (f = noFl ∧ z = [] ∧ ok = false) ∨ (f = noFl ∧ ok = true ∧ (z.length ≤ 400 → UniA (bs z) (bs l) z true noFl ∧ UniA (bs z) (bs m) z true noFl)) := by
  obtain ⟨n1, r1, s1, g1, v1⟩ := h.read
  obtain ⟨n2, r2, s2, g2, v2⟩ := k.read
  have hm := names_two n1 n2
  rw [uniA_iff r1 r2 s1 s2] at hu
  generalize (mean (mean [] n1).2 n2).2 = M at *
  rcases hu with ⟨T, hT, ⟨_, rfl, rfl, rfl⟩ | ⟨hz, rfl, rfl, rfl⟩⟩ | ⟨_, rfl, rfl, rfl⟩
  · exact Or.inl ⟨rfl, rfl, rfl⟩
  · refine Or.inr (Or.inr ⟨rfl, rfl, fun hl => ?_⟩)
    have hg := hT.good (g1 M) (g2 M)
    obtain ⟨⟨R, q1, q2⟩, _⟩ := hT
    constructor
    · have := uni_ends (R := R) r1 s1 (fun s hs => (hm s).2 (Or.inl hs)) v1 (by rw [q1]; exact hg) (by rw [q1]; omega) (by rw [q1]; exact hl)
      rwa [q1] at this
    · have := uni_ends (R := R) r2 s2 (fun s hs => (hm s).2 (Or.inr hs)) v2 (by rw [q2]; exact hg) (by rw [q2]; omega) (by rw [q2]; exact hl)
      rwa [q2] at this
  · exact Or.inr (Or.inl ⟨rfl, rfl, rfl⟩)
theorem md_swap {l m : List UInt8} {x y : Nd} (h : Md 3 l x) (k : Md 3 m y) {z : List UInt8} {ok : Bool} {f : Fl} (hu : UniA (bs l) (bs m) z ok f) : UniA (bs m) (bs l) z ok f := by
  obtain ⟨n1, r1, s1, _⟩ := h.read
  obtain ⟨n2, r2, s2, _⟩ := k.read
  exact UniA.swap r1 r2 s1 s2 hu
theorem md_self {l : List UInt8} {x : Nd} (h : Md 3 l x) : (canonA (bs l)).2 = noFl ∧ UniA (bs l) (bs l) (canonA (bs l)).1 true noFl := by
  obtain ⟨n1, r1, s1, _⟩ := h.read
  rw [canon_self r1 s1]
  exact ⟨rfl, UniA.self r1 s1⟩
end Go.Proofs.YteneoapickhpdaaGreatDoor
namespace Go.Proofs.YteneoapickhpdaaGreatDoor
open Go Go.RowKit Un
theorem dec0 : dec 0 = [48] := by rw [dec]; decide
theorem dec1 : dec 1 = [49] := by rw [dec]; decide
theorem rd_var (x : UInt8) (hx : Pu.lowB x.toNat = true) (hw : Pu.wordB ⟨[x].toArray⟩ = false) : Rd 0 [39, x] (sVar (bs [39, x])) := by
  refine ⟨[(3, (bs [39, x]).toList)], ?_, .var _⟩
  rw [show (bs [39, x]).toList = [39, x] from toList_mk _]
  exact lx_var x [] hx (by simp) hw
theorem not_word1 (x : UInt8) : Pu.wordB ⟨[x].toArray⟩ = false := by
  unfold Pu.wordB
  rw [toList_mk, List.any_eq_false]
  intro y hy
  have : ∀ l : List UInt8, 2 ≤ l.length → ¬ (l == [x]) = true := fun l hl e => by
    rw [beq_iff_eq] at e
    subst e
    simp at hl
  simp only [Pu.words, List.mem_cons, List.not_mem_nil, or_false] at hy
  rcases hy with rfl | rfl | rfl | rfl | rfl | rfl | rfl | rfl | rfl | rfl | rfl | rfl | rfl <;> exact this _ (by rw [ByteArray.toList_eq]; decide)
theorem rd_up (c : List UInt8) (h : upNm (bs c) = true) : Rd 3 c (sUp (bs c) []) := by
  refine ⟨[(2, (bs c).toList)], ?_, .up _⟩
  have := up_parts h
  rwa [show (bs c).toList = c from toList_mk _] at this ⊢
abbrev tA : List UInt8 := [39, 97, 32, 45, 62, 32, 73, 110, 116]
abbrev tB : List UInt8 := [76, 105, 115, 116, 32, 39, 98, 32, 45, 62, 32, 39, 99]
abbrev tZ : List UInt8 := [76, 105, 115, 116, 32, 39, 118, 48, 32, 45, 62, 32, 73, 110, 116]
abbrev tC : List UInt8 := [39, 97, 45, 62, 40, 39, 98, 45, 62, 39, 97, 41]
abbrev tY : List UInt8 := [39, 118, 48, 32, 45, 62, 32, 39, 118, 49, 32, 45, 62, 32, 39, 118, 48]
abbrev cInt : ByteArray := bs [73, 110, 116]
abbrev cList : ByteArray := bs [76, 105, 115, 116]
theorem rA : Rd 2 tA (sFn (sVar (bs [39, 97])) (sUp cInt [])) := Rd.fn ((rd_var 97 (by decide) (not_word1 _)).lv 1) (rd_up [73, 110, 116] (upNm_of (by decide))).app.head
theorem rB : Rd 2 tB (sFn (sUp cList [sVar (bs [39, 98])]) (sVar (bs [39, 99]))) :=
  Rd.fn ((rd_up [76, 105, 115, 116] (upNm_of (by decide))).arg (rd_var 98 (by decide) (not_word1 _))).app ((rd_var 99 (by decide) (not_word1 _)).lv 0)
theorem rC : Rd 2 tC (sFn (sVar (bs [39, 97])) (sFn (sVar (bs [39, 98])) (sVar (bs [39, 97])))) := by
  obtain ⟨p, p1, p2⟩ := rd_var 97 (by decide) (not_word1 _)
  obtain ⟨q, q1, q2⟩ := rd_var 98 (by decide) (not_word1 _)
  have e1 : Lx true ([39, 98] ++ ([45, 62] ++ [39, 97])) _ := q1.app (lx_arrow.app p1 (fun e => by cases e)) (fun _ => ⟨45, _, rfl, by decide⟩)
  have r1 : Rd 2 ([39, 98] ++ ([45, 62] ++ [39, 97])) (sFn (sVar (bs [39, 98])) (sVar (bs [39, 97]))) := ⟨_, e1, .arrow q2.up1 (.head p2.up1)⟩
  obtain ⟨u, u1, u2⟩ := r1.par
  exact ⟨_, p1.app (lx_arrow.app u1 (fun e => by cases e)) (fun _ => ⟨45, _, rfl, by decide⟩), .arrow p2.up1 (.head u2.up1)⟩
theorem bs_ne {a b : List UInt8} (h : a ≠ b) : bs a ≠ bs b := fun e => h (bs_inj e)
theorem canon_fix : canonA (bs tC) = (tY, noFl) := by
  obtain ⟨p, p1, p2⟩ := rC
  obtain ⟨n, e, hn⟩ := readT_of p1 p2 (by decide)
  have hm : (mean [] n).1 = .con nFn [.var 1, .con nFn [.var 2, .var 1]] := by
    rw [← mean_er, hn]
    have h1 : addN (bs [39, 97]) [] = [bs [39, 97]] := addN_out (by simp)
    have h2 : addN (bs [39, 98]) [bs [39, 97]] = [bs [39, 97], bs [39, 98]] := addN_out (by simpa using bs_ne (by decide))
    have h3 : addN (bs [39, 97]) [bs [39, 97], bs [39, 98]] = [bs [39, 97], bs [39, 98]] := addN_in (by simp)
    have i1 : ix (bs [39, 97]) [bs [39, 97]] = 0 := by simp [ix]
    have i2 : ix (bs [39, 98]) [bs [39, 97], bs [39, 98]] = 1 := ix_snoc (ns := [bs [39, 97]]) (by simpa using bs_ne (by decide))
    have i3 : ix (bs [39, 97]) [bs [39, 97], bs [39, 98]] = 0 := by simp [ix]
    simp [sFn, sVar, mean, meanL, conN, h1, h2, h3, i1, i2, i3]
  unfold canonA
  rw [e]
  simp only [hm]
  simp [size, sizeL, Un.written, vars, varsL, Un.seen, wr, wrA, joined, nth, par, List.idxOf, List.findIdx, List.findIdx.go, dec0, dec1]
theorem uni_fix : UniA (bs tA) (bs tB) tZ true noFl := by
  obtain ⟨p, p1, p2⟩ := rA
  obtain ⟨q, q1, q2⟩ := rB
  obtain ⟨n, e, hn⟩ := readT_of p1 p2 (by decide)
  obtain ⟨m, e2, hm⟩ := readT_of q1 q2 (by decide)
  have h1 : addN (bs [39, 97]) [] = [bs [39, 97]] := addN_out (by simp)
  have h2 : addN (bs [39, 98]) [bs [39, 97]] = [bs [39, 97], bs [39, 98]] := addN_out (by simpa using bs_ne (by decide))
  have h3 : addN (bs [39, 99]) [bs [39, 97], bs [39, 98]] = [bs [39, 97], bs [39, 98], bs [39, 99]] := addN_out (by simpa using ⟨bs_ne (by decide), bs_ne (by decide)⟩)
  have i1 : ix (bs [39, 97]) [bs [39, 97]] = 0 := by simp [ix]
  have i2 : ix (bs [39, 98]) [bs [39, 97], bs [39, 98]] = 1 := ix_snoc (ns := [bs [39, 97]]) (by simpa using bs_ne (by decide))
  have i3 : ix (bs [39, 99]) [bs [39, 97], bs [39, 98], bs [39, 99]] = 2 := ix_snoc (ns := [bs [39, 97], bs [39, 98]]) (by simpa using ⟨bs_ne (by decide), bs_ne (by decide)⟩)
  have m1 : mean [] n = (.con nFn [.var 1, .con cInt []], [bs [39, 97]]) := by
    rw [← mean_er, hn]
    simp [sFn, sVar, sUp, mean, meanL, conN, h1, i1]
  have m2 : (mean [bs [39, 97]] m).1 = .con nFn [.con cList [.var 2], .var 3] := by
    rw [← mean_er, hm]
    simp [sFn, sVar, sUp, mean, meanL, conN, h2, h3, i2, i3]
  unfold UniA
  rw [e, e2]
  simp only [m1, m2]
  simp only [size, sizeL]
  refine Or.inl ⟨.con nFn [.con cList [.var 2], .con cInt []], ⟨⟨fun k => if k = 1 then .con cList [.var 2] else if k = 3 then .con cInt [] else .var k, by simp [sub, subL], by simp [sub, subL]⟩, fun σ hσ => ⟨σ, ?_⟩⟩, Or.inr ⟨by simp [size, sizeL], ?_, by simp, by simp⟩⟩
  · simp [sub, subL] at hσ ⊢
    exact hσ.1.symm
  · have h7 : cList ≠ nFn := bs_ne (b := [62]) (by decide)
    have h8 : cList ≠ nPr := bs_ne (b := [44]) (by decide)
    have h5 : cInt ≠ nFn := bs_ne (b := [62]) (by decide)
    have h6 : cInt ≠ nPr := bs_ne (b := [44]) (by decide)
    have l1 : cList.toList = [76, 105, 115, 116] := toList_mk _
    have l2 : cInt.toList = [73, 110, 116] := toList_mk _
    simp [Un.written, vars, varsL, Un.seen, wr, wrA, joined, nth, par, List.idxOf, List.findIdx, List.findIdx.go, dec0, h5, h6, h7, h8, l1, l2]
end Go.Proofs.YteneoapickhpdaaGreatDoor
namespace Go.Proofs.YteneoapickhpdaaGreatDoor
open Go Go.RowKit Un
section
variable {w : World} {xb len cap : Nat} {p : Option Addr} {r : Nat → Int}
def TypedP (xb : Nat) (p : Option Addr) (len cap : Nat) (r : Nat → Int) (d : Nat) (w : World) (e : Ending) (w' : World) : Prop := ∃ l nd, e = .returned (.string (bs l)) ∧ Md d l nd ∧ SrcPost xb p len cap r w w'
def eight : List ByteArray := [⟨#[73, 110, 116]⟩, ⟨#[66, 111, 111, 108]⟩, ⟨#[85, 110, 105, 116]⟩, ⟨#[83]⟩, ⟨#[39, 97]⟩, ⟨#[39, 98]⟩, ⟨#[39, 99]⟩, ⟨#[39, 100]⟩]
theorem eight_md (d j : Nat) (hj : j < 8) : ∃ l nd, eight.getD j ⟨#[]⟩ = bs l ∧ Md d l nd := by
  have hc : j = 0 ∨ j = 1 ∨ j = 2 ∨ j = 3 ∨ j = 4 ∨ j = 5 ∨ j = 6 ∨ j = 7 := by omega
  rcases hc with rfl | rfl | rfl | rfl | rfl | rfl | rfl | rfl
  · exact ⟨[73, 110, 116], _, rfl, Md.up d _ (upNm_of (by decide)) (by simp)⟩
  · exact ⟨[66, 111, 111, 108], _, rfl, Md.up d _ (upNm_of (by decide)) (by simp)⟩
  · exact ⟨[85, 110, 105, 116], _, rfl, Md.up d _ (upNm_of (by decide)) (by simp)⟩
  · exact ⟨[83], _, rfl, Md.up d _ (upNm_of (by decide)) (by simp)⟩
  · exact ⟨[39, 97], _, rfl, Md.var d 97 (by decide) (not_word1 _) (by decide)⟩
  · exact ⟨[39, 98], _, rfl, Md.var d 98 (by decide) (not_word1 _) (by decide)⟩
  · exact ⟨[39, 99], _, rfl, Md.var d 99 (by decide) (not_word1 _) (by decide)⟩
  · exact ⟨[39, 100], _, rfl, Md.var d 100 (by decide) (not_word1 _) (by decide)⟩
abbrev four1 : Array Value := #[.string ⟨#[73, 110, 116]⟩, .string ⟨#[66, 111, 111, 108]⟩, .string ⟨#[85, 110, 105, 116]⟩, .string ⟨#[83]⟩]
abbrev four2 : Array Value := #[.string ⟨#[39, 97]⟩, .string ⟨#[39, 98]⟩, .string ⟨#[39, 99]⟩, .string ⟨#[39, 100]⟩]
/-- The world behind the eight texts. -/
abbrev atW (w1 : World) (Z : Array Value) : World := (((w1.alloc (.cells four1 9)).alloc (.cells four2 9)).alloc (.cells (four1 ++ (four2 ++ Z)) 9)).drew
theorem at_world (w1 : World) (Z : Array Value) : Below w1.heap.size w1 (atW w1 Z) := ((((Below.refl _ _).alloc (Nat.le_refl _) _).alloc (by simp) _).alloc (by simp; omega) _).drew
theorem eight_txt (w1 : World) (Z : Array Value) : Txt (atW w1 Z) (w1.heap.size + 1 + 1) 8 (fun j => eight.getD j ⟨#[]⟩) := by
  intro j hj
  have B := Bx.at ((w1.alloc (.cells four1 9)).alloc (.cells four2 9)) (four1 ++ (four2 ++ Z)) 9 (w1.heap.size + 1 + 1) (by simp)
  rw [B.drew.c j]
  have hc : j = 0 ∨ j = 1 ∨ j = 2 ∨ j = 3 ∨ j = 4 ∨ j = 5 ∨ j = 6 ∨ j = 7 := by omega
  rcases hc with rfl | rfl | rfl | rfl | rfl | rfl | rfl | rfl <;> simp [eight, Array.getElem?_append]
set_option maxRecDepth 100000 in
set_option maxHeartbeats 2000000 in
theorem made_C : ∀ (d : Nat), d ≤ 3 → ∀ (w : World) (A : Nat), Src w xb p len cap r A → Calls Tryz.prog 9 #[.pointer (some ⟨xb, 0, none⟩), .int .i64 (d : Int), .bool true] w (TypedP xb p len cap r d w) := by
  intro d
  induction d with
  | zero =>
    intro _ w A h
    have HC := hide (nextK_C h 8 (by omega) (by omega))
    clear h
    go_enter Tryz.func9, Tryz.ntmps9
    go_wp2_with fail
    refine (unhide HC).mono ?_
    rintro e w1 ⟨q, rfl, q0, q1, A1, hs1, hk1⟩
    have HS := hide hs1
    have HK := hide hk1
    clear hs1 hk1 HC
    go_wp2_with fail
    refine (oneK_C (n := 8) (f := fun j => eight.getD j ⟨#[]⟩) ((unhide HS).bel (at_world w1 _)) (eight_txt w1 _) (by simp) (by have := (unhide HS).b.z; omega) (by omega) (by omega)).mono ?_
    rintro e w2 ⟨j, hj, rfl, A2, hs2, hk2⟩
    obtain ⟨l, nd, e2, hmd⟩ := eight_md 0 j hj
    have HS2 := hide hs2
    have HK2 := hide hk2
    have HM := hide hmd
    clear hs2 hk2 hmd
    rw [e2]
    go_wp2_with fail
    go_ret
    exact ⟨l, nd, rfl, unhide HM, A2, unhide HS2, ((unhide HK).below (at_world w1 _)).trans (unhide HK2)⟩
  | succ d ih =>
    intro hd w A h
    have IH := hide (ih (by omega))
    have HC := hide (nextK_C h 8 (by omega) (by omega))
    clear h ih
    have hd0 : (((d + 1 : Nat) : Int) == 0) = false := by simp; omega
    have hd1 : ((d + 1 : Nat) : Int) - 1 = (d : Int) := by omega
    go_enter Tryz.func9, Tryz.ntmps9
    go_wp2_with fail
    refine (unhide HC).mono ?_
    rintro e w1 ⟨q, rfl, q0, q1, A1, hs1, hk1⟩
    have HS := hide hs1
    have HK := hide hk1
    clear hs1 hk1 HC
    by_cases h3 : q < 3
    · go_wp2_with fail
      refine (oneK_C (n := 8) (f := fun j => eight.getD j ⟨#[]⟩) ((unhide HS).bel (at_world w1 _)) (eight_txt w1 _) (by simp) (by have := (unhide HS).b.z; omega) (by omega) (by omega)).mono ?_
      rintro e w2 ⟨j, hj, rfl, A2, hs2, hk2⟩
      obtain ⟨l, nd, e2, hmd⟩ := eight_md (d + 1) j hj
      have HS2 := hide hs2
      have HK2 := hide hk2
      have HM := hide hmd
      clear hs2 hk2 hmd
      rw [e2]
      go_wp2_with fail
      go_ret
      exact ⟨l, nd, rfl, unhide HM, A2, unhide HS2, ((unhide HK).below (at_world w1 _)).trans (unhide HK2)⟩
    · have h3' : decide (q < 3) = false := by simp; omega
      go_wp2_with fail
      refine (unhide IH w1 A1 (unhide HS)).mono ?_
      rintro e w2 ⟨l, nd, rfl, hm2, A2, hs2, hk2⟩
      have HS2 := hide hs2
      have HK2 := hide ((unhide HK).trans hk2)
      have HM2 := hide hm2
      have hb2 : (bs l).size ≤ 74 := by
        have h1 := hm2.len
        have h2 : lB d ≤ 74 := by
          have hc : d = 0 ∨ d = 1 ∨ d = 2 := by omega
          rcases hc with rfl | rfl | rfl <;> simp [lB]
        rw [bs_size]; omega
      clear hs2 hk2 hm2 HS HK
      by_cases h4 : q = 3
      · subst h4
        go_wp2_with fail
        go_ret
        refine ⟨_, _, ?_, (unhide HM2).list, A2, unhide HS2, unhide HK2⟩
        rw [← bs_app, ← bs_app]
        rfl
      · have h4' : (q == 3) = false := by simpa using h4
        go_wp2_with fail
        refine (unhide IH w2 A2 (unhide HS2)).mono ?_
        rintro e w3 ⟨m, nd3, rfl, hm3, A3, hs3, hk3⟩
        have HS3 := hide hs3
        have HK3 := hide ((unhide HK2).trans hk3)
        have HM3 := hide hm3
        have hb3 : (bs m).size ≤ 74 := by
          have h1 := hm3.len
          have h2 : lB d ≤ 74 := by
            have hc : d = 0 ∨ d = 1 ∨ d = 2 := by omega
            rcases hc with rfl | rfl | rfl <;> simp [lB]
          rw [bs_size]; omega
        clear hs3 hk3 hm3 HS2 HK2
        by_cases h6 : q < 6
        · go_wp2_with fail
          go_ret
          refine ⟨_, _, ?_, (unhide HM2).fn (unhide HM3), A3, unhide HS3, unhide HK3⟩
          rw [← bs_app, ← bs_app, ← bs_app, ← bs_app]
          rfl
        · have h6' : decide (q < 6) = false := by simp; omega
          go_wp2_with fail
          go_ret
          refine ⟨_, _, ?_, (unhide HM2).pr (unhide HM3), A3, unhide HS3, unhide HK3⟩
          rw [← bs_app, ← bs_app, ← bs_app, ← bs_app]
          rfl
end
end Go.Proofs.YteneoapickhpdaaGreatDoor
