set_option linter.unusedSimpArgs false
set_option linter.unusedVariables false
set_option linter.unusedSectionVars false
namespace Go.Proofs.YtfflpeklkfjdnaaGreatDoor.Pu

/-- The byte at a place, as a number; 256 behind the end. -/
def at_ (s : ByteArray) (i : Nat) : Nat := if h : i < s.size then s[i].toNat else 256
theorem at_lt {s : ByteArray} {i : Nat} (h : i < s.size) : at_ s i = s[i].toNat := by simp [at_, h]
theorem at_ge {s : ByteArray} {i : Nat} (h : s.size ≤ i) : at_ s i = 256 := by simp [at_]; omega

def lowB (c : Nat) : Bool := Nat.ble 97 c && Nat.ble c 122
def upB (c : Nat) : Bool := Nat.ble 65 c && Nat.ble c 90
def digB (c : Nat) : Bool := Nat.ble 48 c && Nat.ble c 57
def nameB (c : Nat) : Bool := lowB c || upB c || digB c

/-- Where what belongs ends, from i on, in so many steps at most. -/
def endF (s : ByteArray) (p : Nat → Bool) : Nat → Nat → Nat
  | 0, i => i
  | f + 1, i => if p (at_ s i) = true then endF s p f (i + 1) else i
def endTo (s : ByteArray) (p : Nat → Bool) (i : Nat) : Nat := endF s p (s.size - i) i

theorem endTo_yes {s : ByteArray} {p : Nat → Bool} {i : Nat} (h : i < s.size) (hp : p (at_ s i) = true) : endTo s p i = endTo s p (i + 1) := by
  unfold endTo
  obtain ⟨k, hk⟩ : ∃ k, s.size - i = k + 1 := ⟨s.size - i - 1, by omega⟩
  rw [hk, endF, if_pos hp, show s.size - (i + 1) = k by omega]
theorem endTo_no {s : ByteArray} {p : Nat → Bool} {i : Nat} (h : i < s.size) (hp : p (at_ s i) = false) : endTo s p i = i := by
  unfold endTo
  obtain ⟨k, hk⟩ : ∃ k, s.size - i = k + 1 := ⟨s.size - i - 1, by omega⟩
  rw [hk, endF, if_neg (by simp [hp])]
theorem endTo_end {s : ByteArray} {p : Nat → Bool} {i : Nat} (h : s.size ≤ i) : endTo s p i = i := by
  unfold endTo; rw [show s.size - i = 0 by omega]; rfl
theorem endF_ge (s : ByteArray) (p : Nat → Bool) (f i : Nat) : i ≤ endF s p f i ∧ endF s p f i ≤ i + f := by
  induction f generalizing i with
  | zero => simp [endF]
  | succ f ih => unfold endF; split
                 · have := ih (i + 1); omega
                 · omega
theorem endTo_ge (s : ByteArray) (p : Nat → Bool) (i : Nat) : i ≤ endTo s p i := (endF_ge _ _ _ _).1
theorem endTo_le {s : ByteArray} (p : Nat → Bool) {i : Nat} (h : i ≤ s.size) : endTo s p i ≤ s.size := by
  have := (endF_ge s p (s.size - i) i).2; unfold endTo; omega

/-- The words, in the document's order. -/
def words : List ByteArray := [⟨#[116, 121, 112, 101]⟩, ⟨#[108, 101, 116]⟩, ⟨#[114, 101, 99]⟩, ⟨#[105, 110]⟩, ⟨#[102, 117, 110]⟩, ⟨#[105, 102]⟩, ⟨#[116, 104, 101, 110]⟩, ⟨#[101, 108, 115, 101]⟩, ⟨#[109, 97, 116, 99, 104]⟩, ⟨#[119, 105, 116, 104]⟩, ⟨#[101, 110, 100]⟩, ⟨#[116, 114, 117, 101]⟩, ⟨#[102, 97, 108, 115, 101]⟩]
def wordAt (k : Nat) : ByteArray := words.getD k ⟨#[]⟩
def wordB (s : ByteArray) : Bool := words.any fun w => w.toList == s.toList
theorem wordB_at {s : ByteArray} {k : Nat} (hk : k < 13) (h : ((wordAt k).toList == s.toList) = true) : wordB s = true := by
  unfold wordB
  rw [List.any_eq_true]
  refine ⟨wordAt k, ?_, h⟩
  unfold wordAt
  rw [List.getD_eq_getElem?_getD, List.getElem?_eq_getElem (by simpa [words] using hk)]
  exact List.getElem_mem _
theorem wordB_none {s : ByteArray} (h : ∀ j, j < 13 → ((wordAt j).toList == s.toList) = false) : wordB s = false := by
  unfold wordB
  rw [List.any_eq_false]
  intro x hx
  obtain ⟨i, hi, rfl⟩ := List.getElem_of_mem hx
  have := h i (by simpa [words] using hi)
  unfold wordAt at this
  rw [List.getD_eq_getElem?_getD, List.getElem?_eq_getElem hi] at this
  simpa using this

/-- A token: 1 low, 2 up, 3 variable, 4 number, 5 sign or word, 6 none, 7 the end. -/
structure Tok where
  kind : Nat
  text : ByteArray
  frm : Nat
  to : Nat
def signB (c : Nat) : Bool := [40, 41, 44, 59, 58, 61, 124, 43, 45, 42, 60, 95].any fun d => d == c
def mkT (s : ByteArray) (i : Nat) (k to : Nat) : Tok := ⟨k, s.extract i to, i, to⟩
/-- The token that begins at i. -/
def tokAt (s : ByteArray) (i : Nat) : Tok :=
  if lowB (at_ s i) = true then
    if wordB (s.extract i (endTo s nameB i)) = true then mkT s i 5 (endTo s nameB i) else mkT s i 1 (endTo s nameB i)
  else if upB (at_ s i) = true then mkT s i 2 (endTo s nameB i)
  else if at_ s i = 39 ∧ lowB (at_ s (i + 1)) = true then
    if wordB (s.extract (i + 1) (endTo s nameB (i + 1))) = true then mkT s i 6 (endTo s nameB (i + 1)) else mkT s i 3 (endTo s nameB (i + 1))
  else if digB (at_ s i) = true then
    if endTo s digB (i + 1) - i ≤ 9 then mkT s i 4 (endTo s digB (i + 1)) else mkT s i 6 (endTo s digB (i + 1))
  else if at_ s i = 45 ∧ at_ s (i + 1) = 62 then mkT s i 5 (i + 2)
  else if signB (at_ s i) = true then mkT s i 5 (i + 1) else mkT s i 6 (i + 1)
end Go.Proofs.YtfflpeklkfjdnaaGreatDoor.Pu
namespace Go.Proofs.YtfflpeklkfjdnaaGreatDoor.Pu

theorem endTo_gt {s : ByteArray} {p : Nat → Bool} {i : Nat} (h : i < s.size) (hp : p (at_ s i) = true) : i + 1 ≤ endTo s p i := by
  rw [endTo_yes h hp]; exact endTo_ge _ _ _
theorem at_ne {s : ByteArray} {i : Nat} (h : at_ s i < 256) : i < s.size := by
  by_cases e : i < s.size
  · exact e
  · rw [at_ge (by omega)] at h; omega
theorem tokAt_to (s : ByteArray) (i : Nat) (h : i < s.size) : i < (tokAt s i).to ∧ (tokAt s i).to ≤ s.size := by
  unfold tokAt
  by_cases h1 : lowB (at_ s i) = true
  · have a := endTo_gt (p := nameB) h (by simp [nameB, h1]); have b := endTo_le (s := s) nameB (i := i) (by omega)
    rw [if_pos h1]; split <;> exact ⟨a, b⟩
  rw [if_neg h1]
  by_cases h2 : upB (at_ s i) = true
  · have a := endTo_gt (p := nameB) h (by simp [nameB, h2]); have b := endTo_le (s := s) nameB (i := i) (by omega)
    rw [if_pos h2]; exact ⟨a, b⟩
  rw [if_neg h2]
  by_cases h3 : at_ s i = 39 ∧ lowB (at_ s (i + 1)) = true
  · have c : i + 1 < s.size := at_ne (by have := h3.2; simp [lowB] at this; omega)
    have a := endTo_ge s nameB (i + 1); have b := endTo_le (s := s) nameB (i := i + 1) (by omega)
    rw [if_pos h3]; split <;> exact ⟨a, b⟩
  rw [if_neg h3]
  by_cases h4 : digB (at_ s i) = true
  · have a := endTo_ge s digB (i + 1); have b := endTo_le (s := s) digB (i := i + 1) (by omega)
    rw [if_pos h4]; split <;> exact ⟨a, b⟩
  rw [if_neg h4]
  by_cases h5 : at_ s i = 45 ∧ at_ s (i + 1) = 62
  · have c : i + 1 < s.size := at_ne (by omega)
    rw [if_pos h5]; exact ⟨by show i < i + 2; omega, by show i + 2 ≤ _; omega⟩
  rw [if_neg h5]
  split <;> exact ⟨by show i < i + 1; omega, by show i + 1 ≤ _; omega⟩

def blankB (c : Nat) : Bool := c == 32 || c == 10
def endTok (s : ByteArray) : Tok := ⟨7, ⟨#[]⟩, s.size, s.size⟩
/-- The tokens from i on, the end behind the last, in so many steps at most. -/
def toksF (s : ByteArray) : Nat → Nat → List Tok
  | 0, _ => [endTok s]
  | f + 1, i => if i < s.size then (if blankB (at_ s i) = true then toksF s f (i + 1) else tokAt s i :: toksF s f (tokAt s i).to) else [endTok s]
theorem toksF_more (s : ByteArray) : ∀ f g i, s.size ≤ i + f → s.size ≤ i + g → toksF s f i = toksF s g i := by
  intro f
  induction f with
  | zero =>
    intro g i h1 h2
    cases g with
    | zero => rfl
    | succ g => unfold toksF; rw [if_neg (by omega)]
  | succ f ih =>
    intro g i h1 h2
    cases g with
    | zero => unfold toksF; rw [if_neg (by omega)]
    | succ g =>
      unfold toksF
      by_cases h : i < s.size
      · rw [if_pos h, if_pos h]
        have ht := tokAt_to s i h
        rw [ih g (i + 1) (by omega) (by omega), ih g (tokAt s i).to (by omega) (by omega)]
      · rw [if_neg h, if_neg h]
/-- The tokens from i on. -/
def toks (s : ByteArray) (i : Nat) : List Tok := toksF s (s.size - i) i
theorem toks_end {s : ByteArray} {i : Nat} (h : s.size ≤ i) : toks s i = [endTok s] := by
  unfold toks; rw [show s.size - i = 0 by omega]; rfl
theorem toks_blank {s : ByteArray} {i : Nat} (h : i < s.size) (hb : blankB (at_ s i) = true) : toks s i = toks s (i + 1) := by
  unfold toks
  obtain ⟨k, hk⟩ : ∃ k, s.size - i = k + 1 := ⟨s.size - i - 1, by omega⟩
  rw [hk, toksF, if_pos h, if_pos hb, show s.size - (i + 1) = k by omega]
theorem toks_tok {s : ByteArray} {i : Nat} (h : i < s.size) (hb : blankB (at_ s i) = false) : toks s i = tokAt s i :: toks s (tokAt s i).to := by
  unfold toks
  obtain ⟨k, hk⟩ : ∃ k, s.size - i = k + 1 := ⟨s.size - i - 1, by omega⟩
  have ht := tokAt_to s i h
  rw [hk, toksF, if_pos h, if_neg (by simp [hb]), toksF_more s k (s.size - (tokAt s i).to) _ (by omega) (by omega)]
end Go.Proofs.YtfflpeklkfjdnaaGreatDoor.Pu
namespace Go.Proofs.YtfflpeklkfjdnaaGreatDoor

namespace Un

/-- Types: a variable, or a name with types. -/
inductive Ty where
  | var (n : Nat) : Ty
  | con (c : ByteArray) (l : List Ty) : Ty

mutual
def sub (σ : Nat → Ty) : Ty → Ty
  | .var n => σ n
  | .con c l => .con c (subL σ l)
def subL (σ : Nat → Ty) : List Ty → List Ty
  | [] => []
  | t :: l => sub σ t :: subL σ l
end
mutual
def size : Ty → Nat
  | .var _ => 1
  | .con _ l => 1 + sizeL l
def sizeL : List Ty → Nat
  | [] => 0
  | t :: l => size t + sizeL l
end
mutual
def Occ (v : Nat) : Ty → Prop
  | .var n => n = v
  | .con _ l => OccL v l
def OccL (v : Nat) : List Ty → Prop
  | [] => False
  | t :: l => Occ v t ∨ OccL v l
end
/-- The variables, each once, behind those of l. -/
def seen (l : List Nat) (v : Nat) : List Nat := if v ∈ l then l else l ++ [v]
mutual
def vars (a : List Nat) : Ty → List Nat
  | .var n => seen a n
  | .con _ l => varsL a l
def varsL (a : List Nat) : List Ty → List Nat
  | [] => a
  | t :: l => varsL (vars a t) l
end

theorem subL_map (σ : Nat → Ty) : ∀ l, subL σ l = l.map (sub σ)
  | [] => rfl
  | t :: l => by simp [subL, subL_map σ l]
theorem subL_length (σ : Nat → Ty) (l : List Ty) : (subL σ l).length = l.length := by simp [subL_map]

mutual
theorem sub_sub (τ σ : Nat → Ty) : ∀ t, sub τ (sub σ t) = sub (fun n => sub τ (σ n)) t
  | .var n => by simp [sub]
  | .con c l => by simp [sub, subL_sub τ σ l]
theorem subL_sub (τ σ : Nat → Ty) : ∀ l, subL τ (subL σ l) = subL (fun n => sub τ (σ n)) l
  | [] => by simp [subL]
  | t :: l => by simp [subL, sub_sub τ σ t, subL_sub τ σ l]
end
mutual
theorem sub_var : ∀ t, sub Ty.var t = t
  | .var n => by simp [sub]
  | .con c l => by simp [sub, subL_var l]
theorem subL_var : ∀ l, subL Ty.var l = l
  | [] => by simp [subL]
  | t :: l => by simp [subL, sub_var t, subL_var l]
end
mutual
theorem sub_congr {σ τ : Nat → Ty} : ∀ t, (∀ n, Occ n t → σ n = τ n) → sub σ t = sub τ t
  | .var n, h => by simpa [sub] using h n (by simp [Occ])
  | .con c l, h => by simp [sub, subL_congr l (fun n hn => h n (by simpa [Occ] using hn))]
theorem subL_congr {σ τ : Nat → Ty} : ∀ l, (∀ n, OccL n l → σ n = τ n) → subL σ l = subL τ l
  | [], _ => by simp [subL]
  | t :: l, h => by simp [subL, sub_congr t (fun n hn => h n (Or.inl hn)), subL_congr l (fun n hn => h n (Or.inr hn))]
end
mutual
/-- And back: where both are one, the two ways are one at each variable. -/
theorem sub_inj {σ τ : Nat → Ty} : ∀ t, sub σ t = sub τ t → ∀ n, Occ n t → σ n = τ n
  | .var m, h, n, hn => by simp [Occ] at hn; subst hn; simpa [sub] using h
  | .con c l, h, n, hn => subL_inj l (by simpa [sub] using h) n (by simpa [Occ] using hn)
theorem subL_inj {σ τ : Nat → Ty} : ∀ l, subL σ l = subL τ l → ∀ n, OccL n l → σ n = τ n
  | [], _, n, hn => by simp [OccL] at hn
  | t :: l, h, n, hn => by
      simp [subL] at h
      cases hn with
      | inl a => exact sub_inj t h.1 n a
      | inr a => exact subL_inj l h.2 n a
end
theorem size_pos : ∀ t, 1 ≤ size t
  | .var n => by simp [size]
  | .con c l => by simp [size] <;> omega
theorem size_mem {t : Ty} : ∀ {l}, t ∈ l → size t ≤ sizeL l
  | a :: l, h => by
      simp [sizeL]
      cases List.mem_cons.1 h with
      | inl e => subst e; omega
      | inr e => have := size_mem e; omega
mutual
theorem size_occ (σ : Nat → Ty) (v : Nat) : ∀ t, Occ v t → size (σ v) ≤ size (sub σ t)
  | .var n, h => by simp [Occ] at h; subst h; simp [sub]
  | .con c l, h => by have := sizeL_occ σ v l (by simpa [Occ] using h); simp [sub, size]; omega
theorem sizeL_occ (σ : Nat → Ty) (v : Nat) : ∀ l, OccL v l → size (σ v) ≤ sizeL (subL σ l)
  | [], h => by simp [OccL] at h
  | t :: l, h => by
      simp [subL, sizeL]
      cases h with
      | inl a => have := size_occ σ v t a; omega
      | inr a => have := sizeL_occ σ v l a; omega
end
/-- Nothing makes a variable one with a type that it stands in. -/
theorem occ_clash {σ : Nat → Ty} {v : Nat} {c : ByteArray} {l : List Ty} (h : OccL v l) : σ v ≠ sub σ (.con c l) := fun e => by
  have := sizeL_occ σ v l h
  have e' := congrArg size e
  simp [sub, size] at e'
  omega

theorem mem_seen {a : List Nat} {v n : Nat} : n ∈ seen a v ↔ n ∈ a ∨ n = v := by
  unfold seen
  split
  · constructor
    · exact Or.inl
    · rintro (h | h)
      · exact h
      · subst h; assumption
  · simp
mutual
theorem mem_vars : ∀ (t : Ty) (a : List Nat) (n : Nat), n ∈ vars a t ↔ n ∈ a ∨ Occ n t
  | .var m, a, n => by simp [vars, Occ, mem_seen, eq_comm]
  | .con c l, a, n => by simp [vars, Occ, mem_varsL l a n]
theorem mem_varsL : ∀ (l : List Ty) (a : List Nat) (n : Nat), n ∈ varsL a l ↔ n ∈ a ∨ OccL n l
  | [], a, n => by simp [varsL, OccL]
  | t :: l, a, n => by simp [varsL, OccL, mem_varsL l, mem_vars t, or_assoc]
end
theorem nodup_seen {a : List Nat} (h : a.Nodup) (v : Nat) : (seen a v).Nodup := by
  unfold seen
  split
  · exact h
  · rename_i hv
    rw [List.nodup_append]
    refine ⟨h, by simp, ?_⟩
    intro x hx y hy e
    simp at hy
    subst e; subst hy
    exact hv hx
mutual
theorem nodup_vars : ∀ (t : Ty) {a : List Nat}, a.Nodup → (vars a t).Nodup
  | .var m, a, h => by simpa [vars] using nodup_seen h m
  | .con c l, a, h => by simpa [vars] using nodup_varsL l h
theorem nodup_varsL : ∀ (l : List Ty) {a : List Nat}, a.Nodup → (varsL a l).Nodup
  | [], a, h => by simpa [varsL] using h
  | t :: l, a, h => by simpa [varsL] using nodup_varsL l (nodup_vars t h)
end
/-- What is behind stays where it is: the list only grows at its end. -/
theorem seen_pre (a : List Nat) (v : Nat) : a <+: seen a v := by
  unfold seen
  split
  · exact List.prefix_refl _
  · exact List.prefix_append _ _
mutual
theorem vars_pre : ∀ (t : Ty) (a : List Nat), a <+: vars a t
  | .var m, a => by simpa [vars] using seen_pre a m
  | .con c l, a => by simpa [vars] using varsL_pre l a
theorem varsL_pre : ∀ (l : List Ty) (a : List Nat), a <+: varsL a l
  | [], a => by simp [varsL]
  | t :: l, a => by simpa [varsL] using (vars_pre t a).trans (varsL_pre l _)
end

/-- A renaming: variables for variables, one for one on those of a list. -/
def Ren (ρ : Nat → Nat) (a : List Nat) : Prop := ∀ m, m ∈ a → ∀ n, n ∈ a → ρ m = ρ n → m = n
abbrev ren (ρ : Nat → Nat) : Nat → Ty := fun n => .var (ρ n)

theorem seen_map {ρ : Nat → Nat} {a : List Nat} {v : Nat} (h : Ren ρ (seen a v)) : seen (a.map ρ) (ρ v) = (seen a v).map ρ := by
  by_cases hv : v ∈ a
  · have h1 : ρ v ∈ a.map ρ := List.mem_map.2 ⟨v, hv, rfl⟩
    rw [seen, seen, if_pos hv, if_pos h1]
  · have h1 : ¬ ρ v ∈ a.map ρ := by
      intro hm
      obtain ⟨u, hu, e⟩ := List.mem_map.1 hm
      have := h u (mem_seen.2 (Or.inl hu)) v (mem_seen.2 (Or.inr rfl)) e
      subst this
      exact hv hu
    rw [seen, seen, if_neg hv, if_neg h1]
    simp
theorem Ren.pre {ρ : Nat → Nat} {a b : List Nat} (h : Ren ρ b) (k : a <+: b) : Ren ρ a := fun m hm n hn e => h m (k.subset hm) n (k.subset hn) e
mutual
theorem vars_ren {ρ : Nat → Nat} : ∀ (t : Ty) {a : List Nat}, Ren ρ (vars a t) → vars (a.map ρ) (sub (ren ρ) t) = (vars a t).map ρ
  | .var m, a, h => by simpa [vars, sub] using seen_map (by simpa [vars] using h)
  | .con c l, a, h => by simpa [vars, sub] using varsL_ren l (by simpa [vars] using h)
theorem varsL_ren {ρ : Nat → Nat} : ∀ (l : List Ty) {a : List Nat}, Ren ρ (varsL a l) → varsL (a.map ρ) (subL (ren ρ) l) = (varsL a l).map ρ
  | [], a, h => by simp [varsL, subL]
  | t :: l, a, h => by
      simp only [varsL, subL] at h ⊢
      rw [vars_ren t (h.pre (varsL_pre l _)), varsL_ren l h]
end
theorem idx_map {ρ : Nat → Nat} {v : Nat} : ∀ {a : List Nat}, Ren ρ a → v ∈ a → (a.map ρ).idxOf (ρ v) = a.idxOf v
  | [], _, h => by simp at h
  | x :: a, h, hv => by
      by_cases e : x = v
      · subst e; simp
      · have e' : ¬ ρ x = ρ v := fun k => e (h x (by simp) v hv k)
        have hv' : v ∈ a := by
          cases List.mem_cons.1 hv with
          | inl k => exact absurd k.symm e
          | inr k => exact k
        have b1 : (x == v) = false := by simpa using e
        have b2 : (ρ x == ρ v) = false := by simpa using e'
        have := idx_map (fun m hm n hn => h m (List.mem_cons_of_mem _ hm) n (List.mem_cons_of_mem _ hn)) hv'
        simp only [List.map_cons, List.idxOf_cons, b1, b2, this]

/-- Two types that come of one another are one but for the variables' names. -/
theorem ren_of_both {σ τ : Nat → Ty} {a b : Ty} (h1 : sub σ a = b) (h2 : sub τ b = a) :
    ∃ ρ : Nat → Nat, Ren ρ (vars [] a) ∧ b = sub (ren ρ) a := by
  have h3 : sub (fun n => sub τ (σ n)) a = sub Ty.var a := by rw [← sub_sub, h1, h2, sub_var]
  have h4 : ∀ n, Occ n a → sub τ (σ n) = .var n := fun n hn => sub_inj a h3 n hn
  have h5 : ∀ n, Occ n a → ∃ m, σ n = .var m := fun n hn => by
    have := h4 n hn
    cases e : σ n with
    | var m => exact ⟨m, rfl⟩
    | con c l => rw [e] at this; simp [sub] at this
  refine ⟨fun n => match σ n with | .var m => m | .con _ _ => 0, ?_, ?_⟩
  · intro m hm n hn e
    have om : Occ m a := by simpa [mem_vars] using hm
    have on : Occ n a := by simpa [mem_vars] using hn
    obtain ⟨x, hx⟩ := h5 m om
    obtain ⟨y, hy⟩ := h5 n on
    simp only [hx, hy] at e
    have a1 := h4 m om
    have a2 := h4 n on
    rw [hx, e, ← hy, a2] at a1
    injection a1 with a1
    exact a1.symm
  · rw [← h1]
    refine sub_congr a fun n hn => ?_
    obtain ⟨x, hx⟩ := h5 n hn
    simp [ren, hx]
mutual
theorem size_ren (ρ : Nat → Nat) : ∀ t, size (sub (ren ρ) t) = size t
  | .var n => by simp [sub, size]
  | .con c l => by simp [sub, size, sizeL_ren ρ l]
theorem sizeL_ren (ρ : Nat → Nat) : ∀ l, sizeL (subL (ren ρ) l) = sizeL l
  | [] => by simp [subL, sizeL]
  | t :: l => by simp [subL, sizeL, size_ren ρ t, sizeL_ren ρ l]
end
end Un
end Go.Proofs.YtfflpeklkfjdnaaGreatDoor
namespace Go.Proofs.YtfflpeklkfjdnaaGreatDoor

namespace Un

abbrev nFn : ByteArray := ⟨#[62]⟩
abbrev nPr : ByteArray := ⟨#[44]⟩
def par (p : Bool) (s : List UInt8) : List UInt8 := if p = true then 40 :: (s ++ [41]) else s
def nth (ps : List (Nat → List UInt8)) (i : Nat) : Nat → List UInt8 := ps.getD i fun _ => []
/-- A name and its parts, each as it is written at a place that is so tight. -/
def joined (c : ByteArray) (ps : List (Nat → List UInt8)) (tight : Nat) : List UInt8 :=
  if c = nFn then par (decide (0 < tight)) (nth ps 0 1 ++ ([32, 45, 62, 32] ++ nth ps 1 0))
  else if c = nPr then 40 :: (nth ps 0 0 ++ ([44, 32] ++ (nth ps 1 0 ++ [41])))
  else par (decide (1 < tight) && !ps.isEmpty) (c.toList ++ ps.flatMap fun p => 32 :: p 2)
section
variable (dec : Nat → List UInt8)
mutual
def wr (L : List Nat) : Ty → Nat → List UInt8
  | .var n => fun _ => 39 :: 118 :: dec (L.idxOf n)
  | .con c l => joined c (wrA L l)
def wrA (L : List Nat) : List Ty → List (Nat → List UInt8)
  | [] => []
  | t :: l => wr L t :: wrA L l
end
/-- A type, written. -/
def written (t : Ty) : List UInt8 := wr dec (vars [] t) t 0

theorem idx_pre {v : Nat} : ∀ {a b : List Nat}, a <+: b → v ∈ a → b.idxOf v = a.idxOf v
  | [], _, _, h => by simp at h
  | x :: a, b, h, hv => by
      obtain ⟨r, rfl⟩ := h
      by_cases e : x = v
      · subst e; simp
      · have b1 : (x == v) = false := by simpa using e
        have hv' : v ∈ a := by
          cases List.mem_cons.1 hv with
          | inl k => exact absurd k.symm e
          | inr k => exact k
        have := idx_pre (List.prefix_append a r) hv'
        simp only [List.cons_append, List.idxOf_cons, b1, this]
mutual
theorem wr_pre {a b : List Nat} (h : a <+: b) : ∀ t, (∀ n, Occ n t → n ∈ a) → wr dec b t = wr dec a t
  | .var n, k => by simp only [wr, idx_pre h (k n (by simp [Occ]))]
  | .con c l, k => by simp only [wr, wrA_pre h l (fun n hn => k n (by simpa [Occ] using hn))]
theorem wrA_pre {a b : List Nat} (h : a <+: b) : ∀ l, (∀ n, OccL n l → n ∈ a) → wrA dec b l = wrA dec a l
  | [], _ => by simp [wrA]
  | t :: l, k => by simp only [wrA, wr_pre h t (fun n hn => k n (Or.inl hn)), wrA_pre h l (fun n hn => k n (Or.inr hn))]
end
mutual
theorem wr_ren {ρ : Nat → Nat} {L : List Nat} (h : Ren ρ L) : ∀ t, (∀ n, Occ n t → n ∈ L) → wr dec (L.map ρ) (sub (ren ρ) t) = wr dec L t
  | .var n, k => by simp only [wr, sub, ren, idx_map h (k n (by simp [Occ]))]
  | .con c l, k => by simp only [wr, sub, wrA_ren h l (fun n hn => k n (by simpa [Occ] using hn))]
theorem wrA_ren {ρ : Nat → Nat} {L : List Nat} (h : Ren ρ L) : ∀ l, (∀ n, OccL n l → n ∈ L) → wrA dec (L.map ρ) (subL (ren ρ) l) = wrA dec L l
  | [], _ => by simp [wrA, subL]
  | t :: l, k => by simp only [wrA, subL, wr_ren h t (fun n hn => k n (Or.inl hn)), wrA_ren h l (fun n hn => k n (Or.inr hn))]
end
theorem wrA_map (L : List Nat) : ∀ l, wrA dec L l = l.map (wr dec L)
  | [] => rfl
  | t :: l => by simp [wrA, wrA_map L l]
theorem written_ren {ρ : Nat → Nat} {t : Ty} (h : Ren ρ (vars [] t)) : written dec (sub (ren ρ) t) = written dec t := by
  have e := vars_ren (ρ := ρ) t (a := []) h
  simp only [List.map_nil] at e
  rw [written, e, wr_ren dec h t (fun n hn => (mem_vars t [] n).2 (Or.inr hn)), ← written]

/-- T comes of both, and whatever comes of both comes of it. -/
def Mgu (a b T : Ty) : Prop := (∃ R, sub R a = T ∧ sub R b = T) ∧ ∀ σ, sub σ a = sub σ b → ∃ τ, sub τ T = sub σ a
theorem Mgu.one {a b T U : Ty} (h : Mgu a b T) (k : Mgu a b U) : written dec U = written dec T ∧ size U = size T := by
  obtain ⟨⟨R, r1, r2⟩, h2⟩ := h
  obtain ⟨⟨S, s1, s2⟩, k2⟩ := k
  obtain ⟨τ, e1⟩ := h2 S (s1.trans s2.symm)
  obtain ⟨μ, e2⟩ := k2 R (r1.trans r2.symm)
  rw [s1] at e1
  rw [r1] at e2
  obtain ⟨ρ, h3, rfl⟩ := ren_of_both e1 e2
  exact ⟨written_ren dec h3, size_ren ρ T⟩
end
end Un
end Go.Proofs.YtfflpeklkfjdnaaGreatDoor
namespace Go.Proofs.YtfflpeklkfjdnaaGreatDoor

namespace Un

/-- What is known of variables, and what each one is by it, in the end. -/
structure Knw (K : Nat → Option Ty) (R : Nat → Ty) (rk : Nat → Nat) : Prop where
  open_ : ∀ n, K n = none → R n = .var n
  shut : ∀ n t, K n = some t → R n = sub R t
  rank : ∀ n u, K n = some (.var u) → rk u < rk n

theorem Knw.start : Knw (fun _ => none) Ty.var (fun _ => 0) := ⟨fun _ _ => rfl, fun _ _ h => by simp at h, fun _ _ h => by simp at h⟩
theorem Knw.con {K : Nat → Option Ty} {R : Nat → Ty} {rk : Nat → Nat} (_ : Knw K R rk) {c : ByteArray} {l : List Ty} : sub R (.con c l) = .con c (subL R l) := by simp [sub]
def upd {α : Type} (K : Nat → α) (a : Nat) (t : α) : Nat → α := fun n => if n = a then t else K n
/-- The way to put B for the variable a. -/
def put1 (a : Nat) (B : Ty) : Nat → Ty := fun n => if n = a then B else .var n
theorem put1_out {a : Nat} {B t : Ty} (h : ¬ Occ a t) : sub (put1 a B) t = t := by
  refine (sub_congr t fun n hn => ?_).trans (sub_var t)
  have : n ≠ a := fun e => h (e ▸ hn)
  simp [put1, this]
theorem put1_gen {a : Nat} {B t : Ty} {σ : Nat → Ty} (h : σ a = sub σ B) : sub σ (sub (put1 a B) t) = sub σ t := by
  rw [sub_sub]
  refine sub_congr t fun n _ => ?_
  by_cases e : n = a
  · subst e; simp [put1, h]
  · simp [put1, e, sub]
/-- An open variable is put to be a type in which it does not stand. -/
theorem Knw.bind {K : Nat → Option Ty} {R : Nat → Ty} {rk : Nat → Nat} (h : Knw K R rk) {a : Nat} {b : Ty} (ha : K a = none)
    (hn : ¬ Occ a (sub R b)) (hb : ∀ u, b = .var u → K u = none) :
    ∃ rk', Knw (upd K a (some b)) (fun n => sub (put1 a (sub R b)) (R n)) rk' := by
  have hN : ∀ t, sub (fun n => sub (put1 a (sub R b)) (R n)) t = sub (put1 a (sub R b)) (sub R t) := fun t => (sub_sub _ _ t).symm
  classical
  refine ⟨fun n => if R n = .var a then rk n + (match b with | .var u => rk u + 1 | .con _ _ => 0) else rk n, ?_, ?_, ?_⟩
  · intro n hn'
    by_cases e : n = a
    · simp [upd, e] at hn'
    · simp [upd, e] at hn'
      simp [h.open_ n hn', sub, put1, e]
  · intro n t ht
    by_cases e : n = a
    · subst e
      simp [upd] at ht
      subst ht
      simp only [hN]
      rw [put1_out hn, h.open_ n ha]
      simp [sub, put1]
    · simp [upd, e] at ht
      simp only [hN]
      rw [h.shut n t ht]
  · intro n u ht
    by_cases e : n = a
    · subst e
      simp [upd] at ht
      subst ht
      have h1 := h.open_ n ha
      have h2 := h.open_ u (hb u rfl)
      have h3 : ¬ u = n := fun e => hn (by rw [sub, h2, Occ]; exact e)
      simp [h1, h2, h3]
      omega
    · simp [upd, e] at ht
      have h1 := h.rank n u ht
      have h2 : R n = R u := by simpa [sub] using h.shut n _ ht
      simp only [h2]
      split <;> omega

/-- What came of making two one: the least that must be known. -/
structure Made (R R' : Nat → Ty) (a b : Ty) : Prop where
  same : sub R' a = sub R' b
  of_ : ∃ δ, ∀ n, R' n = sub δ (R n)
  least : ∀ σ, sub σ (sub R a) = sub σ (sub R b) → ∀ n, sub σ (R' n) = sub σ (R n)
theorem Made.mgu {R' : Nat → Ty} {a b : Ty} (h : Made Ty.var R' a b) : Mgu a b (sub R' a) := by
  refine ⟨⟨R', rfl, h.same.symm⟩, fun σ e => ⟨σ, ?_⟩⟩
  rw [sub_sub]
  refine sub_congr a fun n _ => ?_
  have := h.least σ (by rw [sub_var, sub_var]; exact e) n
  simpa [sub] using this
theorem Made.apply {R R' : Nat → Ty} {a b : Ty} (h : Made R R' a b) {σ : Nat → Ty} (e : sub σ (sub R a) = sub σ (sub R b)) (t : Ty) : sub σ (sub R' t) = sub σ (sub R t) := by
  rw [sub_sub, sub_sub]
  exact sub_congr t fun n _ => h.least σ e n
theorem Made.refl {R : Nat → Ty} {a b : Ty} (h : sub R a = sub R b) : Made R R a b := ⟨h, ⟨Ty.var, fun _ => (sub_var _).symm⟩, fun _ _ _ => rfl⟩
theorem Made.swap {R R' : Nat → Ty} {a b : Ty} (h : Made R R' a b) : Made R R' b a := ⟨h.same.symm, h.of_, fun σ e => h.least σ e.symm⟩
/-- By what the two are known to be alone. -/
theorem Made.of_look {R R' : Nat → Ty} {a b a' b' : Ty} (h : Made R R' a' b') (ea : sub R a' = sub R a) (eb : sub R b' = sub R b) : Made R R' a b := by
  obtain ⟨h1, ⟨δ, h2⟩, h3⟩ := h
  have hN : ∀ t, sub R' t = sub δ (sub R t) := fun t => by rw [sub_sub]; exact sub_congr t fun n _ => h2 n
  refine ⟨?_, ⟨δ, h2⟩, fun σ e => h3 σ (by rw [ea, eb]; exact e)⟩
  rw [hN a, hN b, ← ea, ← eb, ← hN, ← hN, h1]
theorem Made.bind {K : Nat → Option Ty} {R : Nat → Ty} {rk : Nat → Nat} (h : Knw K R rk) {a : Nat} {b : Ty} (ha : K a = none) (hn : ¬ Occ a (sub R b)) :
    Made R (fun n => sub (put1 a (sub R b)) (R n)) (.var a) b := by
  have hN : ∀ t, sub (fun n => sub (put1 a (sub R b)) (R n)) t = sub (put1 a (sub R b)) (sub R t) := fun t => (sub_sub _ _ t).symm
  refine ⟨?_, ⟨_, fun n => rfl⟩, fun σ e n => put1_gen ?_⟩
  · rw [hN, hN, put1_out hn]
    simp [sub, h.open_ a ha, put1]
  · simpa [sub, h.open_ a ha] using e
/-- A variable in what it would have to be: nothing makes them one. -/
theorem no_bind {K : Nat → Option Ty} {R : Nat → Ty} {rk : Nat → Nat} (h : Knw K R rk) {a : Nat} {c : ByteArray} {l : List Ty} (ha : K a = none) (hn : Occ a (sub R (.con c l))) (σ : Nat → Ty) :
    sub σ (sub R (.var a)) ≠ sub σ (sub R (.con c l)) := by
  have e1 : sub R (.var a) = .var a := by simpa [sub] using h.open_ a ha
  rw [e1]
  simp only [sub, Occ] at hn ⊢
  have := occ_clash (σ := σ) (c := c) hn
  simpa [sub] using this
/-- Lists, part by part. -/
structure MadeL (R R' : Nat → Ty) (a b : List Ty) : Prop where
  same : subL R' a = subL R' b
  of_ : ∃ δ, ∀ n, R' n = sub δ (R n)
  least : ∀ σ, subL σ (subL R a) = subL σ (subL R b) → ∀ n, sub σ (R' n) = sub σ (R n)
theorem subL_of {R R' δ : Nat → Ty} (h : ∀ n, R' n = sub δ (R n)) (l : List Ty) : subL R' l = subL δ (subL R l) := by
  rw [subL_sub]; exact subL_congr l fun n _ => h n
theorem MadeL.nil (R : Nat → Ty) : MadeL R R [] [] := ⟨rfl, ⟨Ty.var, fun _ => (sub_var _).symm⟩, fun _ _ _ => rfl⟩
theorem subL_append (σ : Nat → Ty) (a b : List Ty) : subL σ (a ++ b) = subL σ a ++ subL σ b := by simp [subL_map]
theorem MadeL.snoc {R R' R'' : Nat → Ty} {a b : List Ty} {x y : Ty} (hl : a.length = b.length) (h : MadeL R R' a b) (k : Made R' R'' x y) : MadeL R R'' (a ++ [x]) (b ++ [y]) := by
  obtain ⟨δ, h2⟩ := h.of_
  obtain ⟨ε, k2⟩ := k.of_
  refine ⟨?_, ⟨fun n => sub ε (δ n), fun n => ?_⟩, fun σ e n => ?_⟩
  · rw [subL_append, subL_append, subL_of k2 a, subL_of k2 b, h.same]
    simp [subL, k.same]
  · rw [k2 n, h2 n, sub_sub]
  · rw [subL_append, subL_append, subL_append, subL_append] at e
    have e1 := List.append_inj e (by simp [subL_length, hl])
    have e2 := h.least σ e1.1
    have e3 : sub σ (sub R' x) = sub σ (sub R' y) := by
      have : ∀ t, sub σ (sub R' t) = sub σ (sub R t) := fun t => by
        rw [sub_sub, sub_sub]; exact sub_congr t fun n _ => e2 n
      rw [this, this]
      simpa [subL] using e1.2
    rw [k.least σ e3 n, e2 n]
theorem MadeL.con {R R' : Nat → Ty} {a b : List Ty} (c : ByteArray) (h : MadeL R R' a b) : Made R R' (.con c a) (.con c b) :=
  ⟨by simp [sub, h.same], h.of_, fun σ e => h.least σ (by simpa [sub] using e)⟩
/-- Where two parts cannot be one, the whole cannot. -/
theorem MadeL.no {R R' : Nat → Ty} {a b a' b' : List Ty} {x y : Ty} (hl : a.length = b.length) (h : MadeL R R' a b) (k : ∀ σ, sub σ (sub R' x) ≠ sub σ (sub R' y)) (c d : ByteArray) (σ : Nat → Ty) :
    sub σ (sub R (.con c (a ++ x :: a'))) ≠ sub σ (sub R (.con d (b ++ y :: b'))) := by
  intro e
  simp only [sub, Ty.con.injEq] at e
  have e := e.2
  rw [subL_append, subL_append, subL_append, subL_append] at e
  have e1 := List.append_inj e (by simp [subL_length, hl])
  have e2 := h.least σ e1.1
  refine k σ ?_
  have : ∀ t, sub σ (sub R' t) = sub σ (sub R t) := fun t => by
    rw [sub_sub, sub_sub]; exact sub_congr t fun n _ => e2 n
  rw [this, this]
  have e3 := e1.2
  simp only [subL, List.cons.injEq] at e3
  exact e3.1
theorem clash_name {R σ : Nat → Ty} {a b : List Ty} {c d : ByteArray} (h : c ≠ d) : sub σ (sub R (.con c a)) ≠ sub σ (sub R (.con d b)) := fun e => by
  simp only [sub, Ty.con.injEq] at e
  exact h e.1
theorem clash_len {R σ : Nat → Ty} {a b : List Ty} {c d : ByteArray} (h : a.length ≠ b.length) : sub σ (sub R (.con c a)) ≠ sub σ (sub R (.con d b)) := fun e => by
  simp only [sub, Ty.con.injEq] at e
  have := congrArg List.length e.2
  simp [subL_length] at this
  exact h this
end Un
end Go.Proofs.YtfflpeklkfjdnaaGreatDoor
namespace Go.Proofs.YtfflpeklkfjdnaaGreatDoor

namespace Un

/-- Part by part. -/
inductive All2 {α β : Type} (E : α → β → Prop) : List α → List β → Prop where
  | nil : All2 E [] []
  | cons {x : α} {y : β} {l : List α} {k : List β} : E x y → All2 E l k → All2 E (x :: l) (y :: k)

/-- Nodes: what each is made by, of which parts (none: a variable). -/
abbrev Str := Nat → Option (ByteArray × List Nat)
/-- The next node on the way to a node's head. -/
abbrev Nx := Nat → Option Nat

/-- What each node may stand for, by the nodes' make and what was joined. -/
structure Sol (str : Str) (nx : Nx) (V : Nat → Ty) : Prop where
  made : ∀ n c l, str n = some (c, l) → V n = .con c (l.map V)
  joined : ∀ n m, nx n = some m → V n = V m
/-- An equivalence that holds what was joined. -/
structure Eq (nx : Nx) (P : List (Nat × Nat)) (E : Nat → Nat → Prop) : Prop where
  refl : ∀ n, E n n
  symm : ∀ m n, E m n → E n m
  trans : ∀ k m n, E k m → E m n → E k n
  joined : ∀ n m, nx n = some m → E n m
  owed : ∀ m n, (m, n) ∈ P → E m n
/-- What is joined is made alike, of parts that are joined, or owed. -/
def Clo (str : Str) (nx : Nx) (P : List (Nat × Nat)) : Prop :=
  ∀ E, Eq nx P E → ∀ n m c l, nx n = some m → str n = some (c, l) → ∃ l', str m = some (c, l') ∧ All2 E l l'

theorem Clo.start (str : Str) (P : List (Nat × Nat)) : Clo str (fun _ => none) P := fun _ _ _ _ _ _ h => by simp at h
theorem forall2_refl {E : Nat → Nat → Prop} (h : ∀ n, E n n) : ∀ l, All2 E l l
  | [] => .nil
  | x :: l => .cons (h x) (forall2_refl h l)
theorem forall2_trans {E : Nat → Nat → Prop} (h : ∀ k m n, E k m → E m n → E k n) : ∀ {a b c : List Nat}, All2 E a b → All2 E b c → All2 E a c
  | [], _, _, .nil, .nil => .nil
  | _ :: _, _, _, .cons p q, .cons r s => .cons (h _ _ _ p r) (forall2_trans h q s)
theorem forall2_zip {E : Nat → Nat → Prop} : ∀ {a b : List Nat}, a.length = b.length → (∀ x y, (x, y) ∈ a.zip b → E x y) → All2 E a b
  | [], [], _, _ => .nil
  | x :: a, y :: b, h, k => .cons (k x y (by simp)) (forall2_zip (by simpa using h) fun x' y' h' => k x' y' (by simp [h']))
section
variable {str : Str} {nx : Nx} {P : List (Nat × Nat)}

/-- A head is joined to another node: the way of both cases. -/
theorem Sol.join {a b : Nat} (ha : nx a = none) {V : Nat → Ty} : Sol str (upd nx a (some b)) V ↔ Sol str nx V ∧ V a = V b := by
  constructor
  · intro h
    refine ⟨⟨h.made, fun n m e => ?_⟩, h.joined a b (by simp [upd])⟩
    by_cases k : n = a
    · subst k; rw [ha] at e; simp at e
    · exact h.joined n m (by simpa [upd, k] using e)
  · rintro ⟨h, e⟩
    refine ⟨h.made, fun n m k => ?_⟩
    by_cases j : n = a
    · subst j; simp [upd] at k; subst k; exact e
    · exact h.joined n m (by simpa [upd, j] using k)
theorem Eq.of_join {a b : Nat} (ha : nx a = none) {E : Nat → Nat → Prop} (h : Eq (upd nx a (some b)) P E) : Eq nx P E ∧ E a b := by
  refine ⟨⟨h.refl, h.symm, h.trans, fun n m e => h.joined n m ?_, h.owed⟩, h.joined a b (by simp [upd])⟩
  by_cases k : n = a
  · subst k; rw [ha] at e; simp at e
  · simpa [upd, k] using e
/-- A variable is joined to a node. -/
theorem Clo.var {a b : Nat} (h : Clo str nx P) (ha : nx a = none) (hs : str a = none) : Clo str (upd nx a (some b)) P := by
  intro E hE n m c l e1 e2
  by_cases k : n = a
  · subst k; rw [hs] at e2; simp at e2
  · exact h E (hE.of_join ha).1 n m c l (by simpa [upd, k] using e1) e2
/-- A node is joined to another that is made alike: their parts are owed. -/
theorem Clo.con {a b : Nat} {c : ByteArray} {l l' : List Nat} (h : Clo str nx P) (ha : nx a = none) (hs : str a = some (c, l)) (hs' : str b = some (c, l')) (hl : l.length = l'.length) :
    Clo str (upd nx a (some b)) (l.zip l' ++ P) := by
  intro E hE n m c' k e1 e2
  have h1 := (hE.of_join ha).1
  by_cases j : n = a
  · subst j
    simp [upd] at e1
    subst e1
    rw [hs] at e2
    injection e2 with e2
    injection e2 with e2 e3
    subst e2; subst e3
    exact ⟨l', hs', forall2_zip hl fun x y hx => hE.owed x y (List.mem_append_left _ hx)⟩
  · exact h E ⟨h1.refl, h1.symm, h1.trans, h1.joined, fun m n k => hE.owed m n (List.mem_append_right _ k)⟩ n m c' k (by simpa [upd, j] using e1) e2
/-- A shorter way. -/
theorem Sol.short {n m k : Nat} (h1 : nx n = some m) (h2 : nx m = some k) (hne : n ≠ m) {V : Nat → Ty} : Sol str (upd nx n (some k)) V ↔ Sol str nx V := by
  constructor
  · intro h
    have hm : V m = V k := h.joined m k (by simp [upd, Ne.symm hne, h2])
    have hn : V n = V k := h.joined n k (by simp [upd])
    refine ⟨h.made, fun x y e => ?_⟩
    by_cases j : x = n
    · subst j; rw [h1] at e; injection e with e; subst e; rw [hm, hn]
    · exact h.joined x y (by simpa [upd, j] using e)
  · intro h
    refine ⟨h.made, fun x y e => ?_⟩
    by_cases j : x = n
    · subst j; simp [upd] at e; subst e; rw [h.joined x m h1, h.joined m _ h2]
    · exact h.joined x y (by simpa [upd, j] using e)
theorem Eq.of_short {n m k : Nat} (h1 : nx n = some m) (h2 : nx m = some k) (hne : n ≠ m) {E : Nat → Nat → Prop} (h : Eq (upd nx n (some k)) P E) : Eq nx P E := by
  refine ⟨h.refl, h.symm, h.trans, fun x y e => ?_, h.owed⟩
  by_cases j : x = n
  · subst j
    rw [h1] at e; injection e with e; subst e
    exact h.trans _ k _ (h.joined _ k (by simp [upd])) (h.symm _ _ (h.joined _ k (by simp [upd, Ne.symm hne, h2])))
  · exact h.joined x y (by simpa [upd, j] using e)
theorem Clo.short {n m k : Nat} (h : Clo str nx P) (h1 : nx n = some m) (h2 : nx m = some k) (hne : n ≠ m) : Clo str (upd nx n (some k)) P := by
  intro E hE x y c l e1 e2
  have hE' := hE.of_short h1 h2 hne
  by_cases j : x = n
  · subst j
    simp [upd] at e1
    subst e1
    obtain ⟨l1, a1, a2⟩ := h E hE' x m c l h1 e2
    obtain ⟨l2, b1, b2⟩ := h E hE' m _ c l1 h2 a1
    exact ⟨l2, b1, forall2_trans hE.trans a2 b2⟩
  · exact h E hE' x y c l (by simpa [upd, j] using e1) e2
/-- What was owed and is joined by now is owed no more. -/
theorem Clo.paid {Q : List (Nat × Nat)} (h : Clo str nx (Q ++ P)) (k : ∀ E, Eq nx P E → ∀ m n, (m, n) ∈ Q → E m n) : Clo str nx P := by
  intro E hE
  exact h E ⟨hE.refl, hE.symm, hE.trans, hE.joined, fun m n hm => by
    cases List.mem_append.1 hm with
    | inl a => exact k E hE m n a
    | inr a => exact hE.owed m n a⟩
end

/-- The head of a node's class. -/
inductive Hd (nx : Nx) : Nat → Nat → Prop where
  | here {n : Nat} : nx n = none → Hd nx n n
  | step {n m h : Nat} : nx n = some m → Hd nx m h → Hd nx n h
theorem Hd.head {nx : Nx} {n h : Nat} (k : Hd nx n h) : nx h = none := by
  induction k with
  | here e => exact e
  | step _ _ ih => exact ih
theorem Hd.one {nx : Nx} {n h h' : Nat} (k : Hd nx n h) (j : Hd nx n h') : h = h' := by
  induction k with
  | here e => cases j with
    | here => rfl
    | step e' _ => rw [e] at e'; simp at e'
  | step e _ ih => cases j with
    | here e' => rw [e] at e'; simp at e'
    | step e' j => rw [e] at e'; injection e' with e'; subst e'; exact ih j
theorem Hd.sol {str : Str} {nx : Nx} {V : Nat → Ty} (s : Sol str nx V) {n h : Nat} (k : Hd nx n h) : V n = V h := by
  induction k with
  | here => rfl
  | step e _ ih => rw [s.joined _ _ e, ih]
theorem Hd.eq {nx : Nx} {P : List (Nat × Nat)} {E : Nat → Nat → Prop} (s : Eq nx P E) {n h : Nat} (k : Hd nx n h) : E n h := by
  induction k with
  | here => exact s.refl _
  | step e _ ih => exact s.trans _ _ _ (s.joined _ _ e) ih
theorem Hd.step_inv {nx : Nx} {n m h : Nat} (k : Hd nx n h) (e : nx n = some m) : Hd nx m h := by
  cases k with
  | here e' => rw [e] at e'; simp at e'
  | step e' k => rw [e] at e'; injection e' with e'; subst e'; exact k
/-- A shorter way leads to the same head. -/
theorem Hd.short {nx : Nx} {n m k : Nat} (h1 : nx n = some m) (h2 : nx m = some k) {x h : Nat} (j : Hd nx x h) : Hd (upd nx n (some k)) x h := by
  induction j with
  | @here x e =>
    have : x ≠ n := fun e' => by subst e'; rw [h1] at e; simp at e
    exact .here (by simpa [upd, this] using e)
  | @step x y h e j ih =>
    by_cases c : x = n
    · subst c
      rw [h1] at e; injection e with e; subst e
      by_cases c2 : m = x
      · subst c2
        exact ih
      · exact .step (m := k) (by simp [upd]) (ih.step_inv (by simp [upd, c2, h2]))
    · exact .step (m := y) (by simpa [upd, c] using e) ih
/-- A head is joined to another head. -/
theorem Hd.join {nx : Nx} {a b : Nat} (ha : nx a = none) (hb : nx b = none) (hne : a ≠ b) {x h : Nat} (j : Hd nx x h) : Hd (upd nx a (some b)) x (if h = a then b else h) := by
  induction j with
  | @here x e =>
    by_cases c : x = a
    · subst c
      simp
      exact .step (m := b) (by simp [upd]) (.here (by simp [upd, Ne.symm hne, hb]))
    · simp [c]
      exact .here (by simpa [upd, c] using e)
  | @step x y h e j ih =>
    have c : x ≠ a := fun c => by subst c; rw [ha] at e; simp at e
    exact .step (m := y) (by simpa [upd, c] using e) ih
/-- The classes of nodes that have a head. -/
def Same (nx : Nx) (m n : Nat) : Prop := m = n ∨ ∃ h, Hd nx m h ∧ Hd nx n h
theorem Same.eq {nx : Nx} {P : List (Nat × Nat)} {E : Nat → Nat → Prop} (s : Eq nx P E) {m n : Nat} (k : Same nx m n) : E m n := by
  rcases k with rfl | ⟨h, a, b⟩
  · exact s.refl _
  · exact s.trans _ _ _ (a.eq s) (s.symm _ _ (b.eq s))
/-- Where every way comes to a head, the classes are an equivalence. -/
theorem Same.is {nx : Nx} (t : ∀ n m, nx n = some m → ∃ h, Hd nx n h) : Eq nx [] (Same nx) := by
  refine ⟨fun n => Or.inl rfl, ?_, ?_, ?_, fun _ _ h => by simp at h⟩
  · rintro m n (h | ⟨h, a, b⟩)
    · exact Or.inl h.symm
    · exact Or.inr ⟨h, b, a⟩
  · rintro k m n (rfl | ⟨h, a, b⟩)
    · exact id
    · rintro (rfl | ⟨h', a', b'⟩)
      · exact Or.inr ⟨h, a, b⟩
      · have := b.one a'
        subst this
        exact Or.inr ⟨h, a, b'⟩
  · intro n m e
    obtain ⟨h, hh⟩ := t n m e
    exact Or.inr ⟨h, hh, hh.step_inv e⟩
/-- In the end: what is joined is made alike, of parts of the same classes. -/
theorem Clo.done {str : Str} {nx : Nx} (h : Clo str nx []) (t : ∀ n m, nx n = some m → ∃ h, Hd nx n h) {n k : Nat} (hk : Hd nx n k) {c : ByteArray} {l : List Nat} (e : str n = some (c, l)) :
    ∃ l', str k = some (c, l') ∧ All2 (Same nx) l l' := by
  induction hk generalizing l with
  | here => exact ⟨l, e, forall2_refl (Same.is t).refl l⟩
  | step e1 _ ih =>
    obtain ⟨l1, a, b⟩ := h _ (Same.is t) _ _ _ _ e1 e
    obtain ⟨l2, a2, b2⟩ := ih a
    exact ⟨l2, a2, forall2_trans (Same.is t).trans b b2⟩

/-- The heads that were measured, and what each stands for: all that stands in them was measured too. -/
def Fin (str : Str) (nx : Nx) (vr : Nat → Nat) (F : Nat → Prop) (V : Nat → Ty) : Prop :=
  ∀ h, F h → nx h = none ∧ match str h with
    | none => V h = .var (vr h)
    | some (c, l) => ∃ hs, All2 (Hd nx) l hs ∧ (∀ x, x ∈ hs → F x) ∧ V h = .con c (hs.map V)
theorem size_map_mem {V : Nat → Ty} : ∀ {l : List Nat} {x}, x ∈ l → size (V x) ≤ sizeL (l.map V)
  | _, _, h => size_mem (List.mem_map.2 ⟨_, h, rfl⟩)
theorem forall2_hd_map {str : Str} {nx : Nx} {V : Nat → Ty} (s : Sol str nx V) : ∀ {l hs : List Nat}, All2 (Hd nx) l hs → l.map V = hs.map V
  | [], _, .nil => rfl
  | _ :: _, _, .cons p q => by simp [p.sol s, forall2_hd_map s q]
theorem map_sub_of {W V : Nat → Ty} {τ : Nat → Ty} : ∀ {l : List Nat}, (∀ x, x ∈ l → W x = sub τ (V x)) → l.map W = subL τ (l.map V)
  | [], _ => by simp [subL]
  | x :: l, h => by
      have k := map_sub_of (W := W) (V := V) (τ := τ) (l := l) fun y hy => h y (List.mem_cons_of_mem _ hy)
      simp [subL, h x (by simp), k]
/-- Whatever the nodes may stand for comes of that. -/
theorem Fin.gen {str : Str} {nx : Nx} {vr : Nat → Nat} {F : Nat → Prop} {V W τ : Nat → Ty} (h : Fin str nx vr F V) (s : Sol str nx W)
    (hv : ∀ x, F x → str x = none → W x = τ (vr x)) : ∀ (n x : Nat), size (V x) ≤ n → F x → W x = sub τ (V x)
  | n, x, hn, hx => by
      have h1 := (h x hx).2
      cases e : str x with
      | none => rw [e] at h1; rw [h1, hv x hx e, sub]
      | some p =>
        obtain ⟨c, l⟩ := p
        rw [e] at h1
        obtain ⟨hs, a, b, d⟩ := h1
        rw [s.made x c l e, d, sub, forall2_hd_map s a]
        congr 1
        refine map_sub_of fun y hy => ?_
        have z := size_map_mem (V := V) hy
        rw [d] at hn
        simp [size] at hn
        match n, hn with
        | 0, hn => omega
        | n + 1, hn => exact Fin.gen h s hv n y (by omega) (b y hy)

/-- What the nodes were made of: each node's type. -/
structure Of (str : Str) (vr : Nat → Nat) (D : Nat → Prop) (ty : Nat → Ty) : Prop where
  var : ∀ n, D n → str n = none → ty n = .var (vr n)
  con : ∀ n c l, str n = some (c, l) → D n ∧ ty n = .con c (l.map ty) ∧ ∀ x, x ∈ l → D x
  one : ∀ m n, D m → D n → str m = none → str n = none → vr m = vr n → m = n
theorem map_congr' {V W : Nat → Ty} : ∀ {l : List Nat}, (∀ x, x ∈ l → V x = W x) → l.map V = l.map W
  | [], _ => rfl
  | x :: l, h => by
      have k := map_congr' (V := V) (W := W) (l := l) fun y hy => h y (List.mem_cons_of_mem _ hy)
      simp [h x (by simp), k]
theorem subL_mapp (σ : Nat → Ty) (V : Nat → Ty) (l : List Nat) : subL σ (l.map V) = l.map fun x => sub σ (V x) := by
  rw [subL_map, List.map_map]; rfl
/-- Each way of putting types for variables is one that the nodes may stand for. -/
theorem Of.sol {str : Str} {vr : Nat → Nat} {D : Nat → Prop} {ty : Nat → Ty} (h : Of str vr D ty) (σ : Nat → Ty) : Sol str (fun _ => none) fun n => sub σ (ty n) :=
  ⟨fun n c l e => by
      have h1 := (h.con n c l e).2.1
      show sub σ (ty n) = _
      rw [h1, sub, subL_mapp], fun _ _ e => by simp at e⟩
theorem same_hd {nx : Nx} {x y z : Nat} (h : Same nx x y) (k : Hd nx y z) : Hd nx x z := by
  rcases h with rfl | ⟨h, a, b⟩
  · exact k
  · exact b.one k ▸ a
theorem same_hds {nx : Nx} : ∀ {l l' hs : List Nat}, All2 (Same nx) l l' → All2 (Hd nx) l' hs → All2 (Hd nx) l hs
  | _, _, _, .nil, .nil => .nil
  | _, _, _, .cons p q, .cons r s => .cons (same_hd p r) (same_hds q s)
theorem hds_map {nx : Nx} {V W : Nat → Ty} (hW : ∀ n k, Hd nx n k → W n = V k) : ∀ {l hs : List Nat}, All2 (Hd nx) l hs → l.map W = hs.map V
  | _, _, .nil => rfl
  | _, _, .cons p q => by simp [hW _ _ p, hds_map hW q]
theorem hds_mem {nx : Nx} : ∀ {l hs : List Nat}, All2 (Hd nx) l hs → ∀ x, x ∈ l → ∃ k, Hd nx x k ∧ k ∈ hs
  | _, _, .nil, x, h => by simp at h
  | _, _, .cons p q, x, h => by
      cases List.mem_cons.1 h with
      | inl e => subst e; exact ⟨_, p, by simp⟩
      | inr e => obtain ⟨k, a, b⟩ := hds_mem q x e; exact ⟨k, a, by simp [b]⟩
/-- In the end the head's type is what both become, and no more than that. -/
theorem mgu_of {str : Str} {nx : Nx} {vr : Nat → Nat} {D F : Nat → Prop} {ty V : Nat → Ty} {a b h : Nat}
    (ho : Of str vr D ty) (ha : D a) (hb : D b) (hs : ∀ W, Sol str (fun _ => none) W → W a = W b → Sol str nx W)
    (hc : Clo str nx []) (ht : ∀ n m, nx n = some m → ∃ h, Hd nx n h) (hE : ∀ E, Eq nx [] E → E a b)
    (hF : Fin str nx vr F V) (hFD : ∀ n, F n → D n) (hh : Hd nx a h) (hFh : F h) : Mgu (ty a) (ty b) (V h) := by
  classical
  have hbh : Hd nx b h := by
    have := hE _ (Same.is ht)
    rcases this with rfl | ⟨k, p, q⟩
    · exact hh
    · exact hh.one p ▸ q
  obtain ⟨W, hW⟩ : ∃ W : Nat → Ty, ∀ n k, Hd nx n k → W n = V k := by
    refine ⟨fun n => if e : ∃ k, Hd nx n k then V e.choose else .var 0, fun n k hk => ?_⟩
    have e : ∃ k, Hd nx n k := ⟨k, hk⟩
    simp only [e, dite_true]
    rw [e.choose_spec.one hk]
  have hA : ∀ n k c l, Hd nx n k → F k → str n = some (c, l) → W n = .con c (l.map W) ∧ ∀ x, x ∈ l → ∃ k, Hd nx x k ∧ F k := by
    intro n k c l hk hFk e
    obtain ⟨l', e', p⟩ := hc.done ht hk e
    have q := (hF k hFk).2
    rw [e'] at q
    obtain ⟨hs, q1, q2, q3⟩ := q
    have r := same_hds p q1
    refine ⟨by rw [hW n k hk, q3, hds_map hW r], fun x hx => ?_⟩
    obtain ⟨k', a', b'⟩ := hds_mem r x hx
    exact ⟨k', a', q2 k' b'⟩
  obtain ⟨R, hR⟩ : ∃ R : Nat → Ty, ∀ n, D n → str n = none → R (vr n) = W n := by
    refine ⟨fun v => if e : ∃ n, D n ∧ str n = none ∧ vr n = v then W e.choose else .var 0, fun n hn hs => ?_⟩
    have e : ∃ m, D m ∧ str m = none ∧ vr m = vr n := ⟨n, hn, hs, rfl⟩
    simp only [e, dite_true]
    obtain ⟨x, y, z⟩ := e.choose_spec
    rw [ho.one _ _ x hn y hs z]
  have hB : ∀ (s n k : Nat), size (ty n) ≤ s → D n → Hd nx n k → F k → sub R (ty n) = W n := by
    intro s
    induction s with
    | zero => intro n k hs; have := size_pos (ty n); omega
    | succ s ih =>
      intro n k hs hn hk hFk
      cases e : str n with
      | none => rw [ho.var n hn e, sub, hR n hn e]
      | some p =>
        obtain ⟨c, l⟩ := p
        obtain ⟨_, o2, o3⟩ := ho.con n c l e
        obtain ⟨p1, p2⟩ := hA n k c l hk hFk e
        rw [o2, p1, sub, subL_mapp]
        congr 1
        refine map_congr' fun x hx => ?_
        obtain ⟨k', a', b'⟩ := p2 x hx
        have z := size_map_mem (V := ty) hx
        rw [o2] at hs
        simp [size] at hs
        exact ih x k' (by omega) (o3 x hx) a' b'
  refine ⟨⟨R, ?_, ?_⟩, fun σ e => ⟨σ, ?_⟩⟩
  · rw [hB _ a h (Nat.le_refl _) ha hh hFh, hW a h hh]
  · rw [hB _ b h (Nat.le_refl _) hb hbh hFh, hW b h hbh]
  · have s := hs _ (ho.sol σ) e
    rw [← hF.gen s (fun x hx hx' => by rw [ho.var x (hFD x hx) hx', sub]) _ h (Nat.le_refl _) hFh]
    exact (hh.sol s).symm
end Un
end Go.Proofs.YtfflpeklkfjdnaaGreatDoor
