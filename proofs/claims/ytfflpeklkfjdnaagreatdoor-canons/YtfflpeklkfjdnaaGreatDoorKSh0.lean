import Derived.BigRegion
import Derived.Deep.RegionWith
import Derived.Maps.AppendAt
import Derived.Test.YtfflpeklkfjdnaaGreatDoorKTc
import Derived.Test.YtfflpeklkfjdnaaGreatDoorKSg
set_option linter.unusedSimpArgs false
set_option linter.unusedVariables false
set_option linter.unusedSectionVars false
namespace Go.Proofs.YtfflpeklkfjdnaaGreatDoor
open Go Go.RowKit

theorem own_ke {rb : Nat} {w w' : World} {base : Nat} {e : TypeId} {size : Nat} {v : Value} {n : Nat} {xs : List Value} (h : w.ownsRow base e size v n xs) (hb : Ke rb w w') (hr : rb < base) : w'.ownsRow base e size v n xs := by
  obtain ⟨h1, h2⟩ := h
  refine ⟨h1, ?_⟩
  rcases h2 with h2 | ⟨q, cap, cur, hv, hg, hh, r⟩
  · exact Or.inl h2
  · refine Or.inr ⟨q, cap, cur, hv, hg, ?_, r⟩
    rw [hb.block q (Array.getElem?_eq_some_iff.1 hh).1 (by omega), hh]
theorem own_set {w : World} {base : Nat} {e : TypeId} {size : Nat} {v : Value} {n : Nat} {xs : List Value} (h : w.ownsRow base e size v n xs) {b : Nat} (hb : b < base) (j : Nat) (u : Value) : (w.setCell ⟨b, j, none⟩ u).ownsRow base e size v n xs :=
  ownsRow_setCell_below h (a := ⟨b, j, none⟩) hb u
section
variable {W w3 : World} {row : Option Nat} (hg : W.grownBy w3 row)
include hg
theorem RS.grown {rb g cap : Nat} {T : List Pu.Tok} {k : Nat} {f : Fl} (h : RS W rb g cap T k f) (hr : ∀ j, row = some j → j ≠ rb ∧ j ≠ g) : RS w3 rb g cap T k f :=
  h.same hg.size (hg.block rb h.hr (fun e => (hr rb e.symm).1 rfl)) (hg.block g h.hg (fun e => (hr g e.symm).2 rfl))
theorem SS.grown {rb g cap : Nat} {T : List Pu.Tok} {σ : St} (h : SS W rb g cap T σ) (hr : ∀ j, row = some j → j ≠ rb ∧ j ≠ g) : SS w3 rb g cap T σ :=
  h.same hg.size (hg.block rb h.hr (fun e => (hr rb e.symm).1 rfl)) (hg.block g h.hg (fun e => (hr g e.symm).2 rfl))
theorem Bx.grown {b : Nat} {C : Array Value} (h : Bx W b C) (hr : ∀ j, row = some j → j ≠ b) : Bx w3 b C := h.same hg.size (hg.block b h.z (fun e => hr b e.symm rfl))
theorem NR.grown {P : Nat → Prop} {nd : Nd} {x : NV} (h : NR W P nd x) (hr : ∀ j b, row = some j → P b → j ≠ b) : NR w3 P nd x :=
  h.move hg.size (fun b p hz => hg.block b hz (fun e => hr b b e.symm p rfl)) (fun _ p _ => p)
theorem Ke.grown {rb : Nat} {a : World} (h : Ke rb a W) (hr : ∀ j, row = some j → a.heap.size ≤ j) : Ke rb a w3 :=
  ⟨hg.os.trans h.os, hg.tape.trans h.tape, hg.output.trans h.output, Nat.le_trans h.size hg.size, fun k hk hn => (hg.block k (Nat.lt_of_lt_of_le hk h.size) (fun e => by have := hr k e.symm; omega)).trans (h.block k hk hn)⟩
end
theorem nodeInfo : (Tryz.prog.info? 62).map (fun i => (i.zero, i.size, i.bytes)) = some (some (.agg #[.int .i64 0, .string ⟨#[]⟩, .int .i64 0, .slice none 0 0, .int .i64 0, .int .i64 0, .int .i64 0]), 7, 80) := by kernel_rfl
theorem nodesUnder : Tryz.prog.underlying 60 = some (.slice 62) := by kernel_rfl
/-- A row of nodes that the call owns, as a node's parts. -/
theorem NR.ofOwn {w : World} {P : Nat → Prop} (k : Nat) (s : ByteArray) (n : Nat) (f t a : Nat) (L : List Nd) (xs : List NV) (hl : xs.length = L.length) {base : Nat} {e : TypeId} {va : Option Addr} {vc : Nat} (ho : w.ownsRow base e 7 (.slice va xs.length vc) xs.length (flat xs)) (hv : xs = [] → va = none ∧ vc = 0)
    (hr : ∀ i (h : i < L.length), NR w P L[i] (xs[i]'(by omega))) (hP : ∀ q, base ≤ q → q < w.heap.size → P q) :
    NR w P (.mk k s n L f t a) ⟨k, s, n, va, xs.length, vc, f, t, a⟩ := by
  by_cases hL : L = []
  · subst hL
    have hx : xs = [] := List.eq_nil_of_length_eq_zero hl
    obtain ⟨rfl, rfl⟩ := hv hx
    subst hx
    exact .leaf k s n f t a
  obtain ⟨h1, h2⟩ := ho
  rcases h2 with ⟨hn, hz⟩ | ⟨q, cap, cur, hvv, hg, hh, hc1, hc2, hcs, ht⟩
  · exact absurd (List.eq_nil_of_length_eq_zero (by omega)) hL
  · injection hvv with e1 e2 e3
    subst e1 e3
    have hq : q < w.heap.size := (Array.getElem?_eq_some_iff.1 hh).1
    have hx : ∀ i (h : i < L.length), xs.getD i NV.no = xs[i]'(by omega) := fun i h => by rw [List.getD_eq_getElem?_getD, List.getElem?_eq_getElem (by omega)]; rfl
    rw [hl]
    refine .row k s n L f t a q vc (fun i => xs.getD i NV.no) hL (hP q hg hq) hq (fun i hi j hj => ?_) (fun i hi => by rw [hx i hi]; exact hr i hi)
    rw [hx i hi, ← flat_at xs i j (by omega) hj, ← ht]
    have hlt : i * 7 + j < xs.length * 7 := by omega
    simp only [World.cell?, hh]
    rw [List.getElem?_take_of_lt hlt]
    simp
theorem own_some {w : World} {base : Nat} {e : TypeId} {size : Nat} {v : Value} {n : Nat} {xs : List Value} (h : w.ownsRow base e size v n xs) (hn : 0 < n) : ∃ q c, v = .slice (some ⟨q, 0, none⟩) n c := by
  obtain ⟨_, h2⟩ := h
  rcases h2 with ⟨_, h0⟩ | ⟨q, c, _, hv, _⟩
  · omega
  · exact ⟨q, c, hv⟩
theorem own_num {w : World} {base : Nat} {e : TypeId} {size : Nat} {v : Value} {n n' : Nat} {xs xs' : List Value} (h : w.ownsRow base e size v n xs) (hn : n = n') (hx : xs = xs') : w.ownsRow base e size v n' xs' := by subst hn; subst hx; exact h
end Go.Proofs.YtfflpeklkfjdnaaGreatDoor
namespace Go.Proofs.YtfflpeklkfjdnaaGreatDoor
open Go Go.RowKit Un

theorem own_put {w : World} {base : Nat} {e : TypeId} {size g n cap : Nat} {xs : List Value} (h : w.ownsRow base e size (.slice (some ⟨g, 0, none⟩) n cap) n xs) (j : Nat) (v : Value) :
    (w.setCell ⟨g, j, none⟩ v).ownsRow base e size (.slice (some ⟨g, 0, none⟩) n cap) n (xs.set j v) := by
  obtain ⟨h1, h2⟩ := h
  refine ⟨by simpa using h1, ?_⟩
  rcases h2 with ⟨h2, _⟩ | ⟨g', cap', cur, hv, hg, hh, r1, r2, r3, r4⟩
  · cases h2
  · cases hv
    refine Or.inr ⟨g, cap, cur.setIfInBounds j v, rfl, hg, heap_setCell_same w g j cur e v hh, r1, r2, by simpa using r3, ?_⟩
    rw [← r4]
    simp [List.take_set]
theorem own_same {w w' : World} {base : Nat} {e : TypeId} {size : Nat} {v : Value} {n : Nat} {xs : List Value} (h : w.ownsRow base e size v n xs) (hb : ∀ g, v.ownBlock = some g → w'.heap[g]? = w.heap[g]?) : w'.ownsRow base e size v n xs := by
  obtain ⟨h1, h2⟩ := h
  refine ⟨h1, ?_⟩
  rcases h2 with h2 | ⟨g, cap, cur, hv, hg, hh, r⟩
  · exact Or.inl h2
  · exact Or.inr ⟨g, cap, cur, hv, hg, by rw [hb g (by rw [hv]; rfl)]; exact hh, r⟩
theorem own_oth {w : World} {base : Nat} {e : TypeId} {size : Nat} {v : Value} {n : Nat} {xs : List Value} (h : w.ownsRow base e size v n xs) {b : Nat} (hb : v.ownBlock ≠ some b) (j : Nat) (u : Value) : (w.setCell ⟨b, j, none⟩ u).ownsRow base e size v n xs :=
  own_same h fun g hg => Below.heap_setCell _ _ _ _ (fun e => hb (by rw [hg]; exact congrArg some e))
theorem flat3_set (xs : List TV) (i : Nat) (h : i < xs.length) (y : TV) :
    (((flat3 xs).set (i * 3) (.int .i64 y.n)).set (i * 3 + 1) (.string y.s)).set (i * 3 + 2) (.slice y.la y.ll y.lc) = flat3 (xs.set i y) := by
  induction xs generalizing i with
  | nil => simp at h
  | cons x xs ih =>
    cases i with
    | zero => simp [flat3, TV.l]
    | succ i =>
      have e1 : flat3 (x :: xs) = .int .i64 x.n :: .string x.s :: .slice x.la x.ll x.lc :: flat3 xs := by simp [flat3, TV.l]
      have e2 : flat3 ((x :: xs).set (i + 1) y) = .int .i64 x.n :: .string x.s :: .slice x.la x.ll x.lc :: flat3 (xs.set i y) := by simp [flat3, TV.l]
      rw [e1, e2, ← ih i (by simpa using h), show (i + 1) * 3 = i * 3 + 3 by omega]
      simp
/-- Nothing old has turned but the blocks of S. -/
structure Fr (S : Nat → Prop) (w w' : World) : Prop where
  os : w'.os = w.os
  tape : w'.tape = w.tape
  output : w'.output = w.output
  size : w.heap.size ≤ w'.heap.size
  block : ∀ k, k < w.heap.size → ¬ S k → w'.heap[k]? = w.heap[k]?
theorem Fr.refl (S : Nat → Prop) (w : World) : Fr S w w := ⟨rfl, rfl, rfl, Nat.le_refl _, fun _ _ _ => rfl⟩
theorem Fr.of {S : Nat → Prop} {w w' : World} (h : Below w.heap.size w w') : Fr S w w' := ⟨h.os, h.tape, h.output, h.size, fun k hk _ => h.block k hk⟩
theorem Fr.trans {S : Nat → Prop} {a b c : World} (h : Fr S a b) (k : Fr S b c) : Fr S a c :=
  ⟨k.os.trans h.os, k.tape.trans h.tape, k.output.trans h.output, Nat.le_trans h.size k.size, fun i hi hn => (k.block i (Nat.lt_of_lt_of_le hi h.size) hn).trans (h.block i hi hn)⟩
theorem Fr.low {S : Nat → Prop} {a b c : World} (h : Fr S a b) (k : Below a.heap.size b c) : Fr S a c :=
  ⟨k.os.trans h.os, k.tape.trans h.tape, k.output.trans h.output, Nat.le_trans h.size k.size, fun i hi hn => (k.block i hi).trans (h.block i hi hn)⟩
theorem Fr.set {S : Nat → Prop} {a w : World} (h : Fr S a w) {b : Nat} (hb : S b ∨ a.heap.size ≤ b) (j : Nat) (u : Value) : Fr S a (w.setCell ⟨b, j, none⟩ u) :=
  ⟨h.os, h.tape, h.output, by simpa [World.setCell] using h.size, fun k hk hn => by
    rw [Below.heap_setCell _ _ _ _ (by show k ≠ b; rintro rfl; rcases hb with hb | hb; exact hn hb; omega)]; exact h.block k hk hn⟩
theorem Fr.drewN {S : Nat → Prop} {a w : World} (h : Fr S a w) (n : Nat) : Fr S a (w.drewN n) := ⟨h.os, h.tape, h.output, h.size, h.block⟩
theorem Fr.drew {S : Nat → Prop} {a w : World} (h : Fr S a w) : Fr S a w.drew := ⟨h.os, h.tape, h.output, h.size, h.block⟩
theorem Bx.fr {S : Nat → Prop} {w w' : World} {b : Nat} {C : Array Value} (h : Bx w b C) (hb : Fr S w w') (hn : ¬ S b) : Bx w' b C := h.same hb.size (hb.block b h.z hn)

section
variable {w : World} {kb : Nat} {hv iv : Value} {N : Nat} {K : Nat → Option Ty} {P : Nat → Prop}
/-- The two rows of what is known. -/
def KB (hv iv : Value) (b : Nat) : Prop := hv.ownBlock = some b ∨ iv.ownBlock = some b
theorem KS.high {n : Nat} (h : KS w kb hv iv N K (fun b => P b ∧ b < n)) (hp : ∀ b, P b → b ≠ kb ∧ hv.ownBlock ≠ some b ∧ iv.ownBlock ≠ some b) : KS w kb hv iv N K P := by
  obtain ⟨xs, x1, x2, x3⟩ := h.oi
  exact ⟨h.c0, h.c1, h.fz, h.hk, h.oh, ⟨xs, x1, x2, fun i hi t e => (x3 i hi t e).high⟩, h.nh, h.ni, h.na, hp, h.hN, h.out⟩
/-- What is known stays while blocks are written that it has nothing to do with. -/
theorem KS.same {w' : World} (h : KS w kb hv iv N K P) (hs : w.heap.size ≤ w'.heap.size) (hb : ∀ b, b < w.heap.size → (b = kb ∨ KB hv iv b ∨ P b) → w'.heap[b]? = w.heap[b]?) : KS w' kb hv iv N K P := by
  obtain ⟨xs, x1, x2, x3⟩ := h.oi
  have hk := hb kb h.hk (Or.inl rfl)
  refine ⟨by rw [World.cell?_of_block (a := ⟨kb, 0, none⟩) (w := w) hk]; exact h.c0, by rw [World.cell?_of_block (a := ⟨kb, 1, none⟩) (w := w) hk]; exact h.c1, fun j => by rw [World.frozen?_of_block (a := ⟨kb, j, none⟩) (w := w) hk]; exact h.fz j, Nat.lt_of_lt_of_le h.hk hs,
    own_same h.oh (fun g hg => hb g (own_block h.oh g hg).2 (Or.inr (Or.inl (Or.inl hg)))), ⟨xs, x1, own_same x2 (fun g hg => hb g (own_block x2 g hg).2 (Or.inr (Or.inl (Or.inr hg)))), fun i hi t e => (x3 i hi t e).move (Nat.le_refl _) hs (fun b p z => hb b z (Or.inr (Or.inr p))) (fun _ p _ => p)⟩, h.nh, h.ni, h.na, h.pk, h.hN, h.out⟩
theorem KS.kb_lt (h : KS w kb hv iv N K P) {b : Nat} (hb : KB hv iv b) : b < w.heap.size := by
  obtain ⟨xs, x1, x2, x3⟩ := h.oi
  rcases hb with hb | hb
  · exact (own_block h.oh b hb).2
  · exact (own_block x2 b hb).2
theorem KS.setO (h : KS w kb hv iv N K P) {b : Nat} (h1 : b ≠ kb) (h2 : ¬ KB hv iv b) (h3 : ¬ P b) (j : Nat) (u : Value) : KS (w.setCell ⟨b, j, none⟩ u) kb hv iv N K P :=
  h.same (by simp [World.setCell]) fun c _ hc => Below.heap_setCell _ _ _ _ (by
    show c ≠ b
    rintro rfl
    rcases hc with hc | hc | hc
    · exact h1 hc
    · exact h2 hc
    · exact h3 hc)
theorem range_set {f g : Nat → Value} {N m : Nat} (h : m < N) (hf : ∀ i, i ≠ m → g i = f i) : ((List.range N).map f).set m (g m) = (List.range N).map g := by
  refine List.ext_getElem? fun i => ?_
  rw [List.getElem?_set]
  by_cases e : m = i
  · subst e; simp [h]
  · simp only [e, if_false, List.getElem?_map]
    by_cases hi : i < N
    · simp [List.getElem?_range hi, hf i (fun k => e k.symm)]
    · simp [hi]
/-- A variable is put. -/
theorem KS.put {gh ch gi ci : Nat} (h : KS w kb (.slice (some ⟨gh, 0, none⟩) N ch) (.slice (some ⟨gi, 0, none⟩) N ci) N K P) {m : Nat} (hm : m < N) {t : Ty} {y : TV} (hy : TR w P N t y) :
    KS ((((w.setCell ⟨gh, m, none⟩ (.bool true)).setCell ⟨gi, m * 3, none⟩ (.int .i64 y.n)).setCell ⟨gi, m * 3 + 1, none⟩ (.string y.s)).setCell ⟨gi, m * 3 + 2, none⟩ (.slice y.la y.ll y.lc)) kb (.slice (some ⟨gh, 0, none⟩) N ch) (.slice (some ⟨gi, 0, none⟩) N ci) N (upd K (m + 1) (some t)) P := by
  obtain ⟨xs, x1, x2, x3⟩ := h.oi
  have nh : gh ≠ kb := fun e => h.nh (by rw [← e]; rfl)
  have ni : gi ≠ kb := fun e => h.ni (by rw [← e]; rfl)
  have na : gh ≠ gi := fun e => h.na gh rfl (by rw [e]; rfl)
  have hp : ∀ b, P b → b ≠ kb ∧ b ≠ gh ∧ b ≠ gi := fun b p => ⟨(h.pk b p).1, fun e => (h.pk b p).2.1 (by rw [e]; rfl), fun e => (h.pk b p).2.2 (by rw [e]; rfl)⟩
  have hb : ∀ b, b ≠ gh → b ≠ gi → ((((w.setCell ⟨gh, m, none⟩ (.bool true)).setCell ⟨gi, m * 3, none⟩ (.int .i64 y.n)).setCell ⟨gi, m * 3 + 1, none⟩ (.string y.s)).setCell ⟨gi, m * 3 + 2, none⟩ (.slice y.la y.ll y.lc)).heap[b]? = w.heap[b]? := fun b h1 h2 => by
    rw [Below.heap_setCell _ _ _ _ h2, Below.heap_setCell _ _ _ _ h2, Below.heap_setCell _ _ _ _ h2, Below.heap_setCell _ _ _ _ h1]
  have hk := hb kb (Ne.symm nh) (Ne.symm ni)
  have hs : w.heap.size ≤ ((((w.setCell ⟨gh, m, none⟩ (.bool true)).setCell ⟨gi, m * 3, none⟩ (.int .i64 y.n)).setCell ⟨gi, m * 3 + 1, none⟩ (.string y.s)).setCell ⟨gi, m * 3 + 2, none⟩ (.slice y.la y.ll y.lc)).heap.size := by simp [World.setCell]
  have mv : ∀ {t : Ty} {x : TV}, TR w P N t x → TR ((((w.setCell ⟨gh, m, none⟩ (.bool true)).setCell ⟨gi, m * 3, none⟩ (.int .i64 y.n)).setCell ⟨gi, m * 3 + 1, none⟩ (.string y.s)).setCell ⟨gi, m * 3 + 2, none⟩ (.slice y.la y.ll y.lc)) P N t x := fun hx =>
    hx.move (Nat.le_refl _) hs (fun b p _ => hb b (hp b p).2.1 (hp b p).2.2) (fun _ p _ => p)
  refine ⟨by rw [World.cell?_of_block (a := ⟨kb, 0, none⟩) (w := w) hk]; exact h.c0, by rw [World.cell?_of_block (a := ⟨kb, 1, none⟩) (w := w) hk]; exact h.c1, fun j => by rw [World.frozen?_of_block (a := ⟨kb, j, none⟩) (w := w) hk]; exact h.fz j, Nat.lt_of_lt_of_le h.hk hs, ?_, ⟨xs.set m y, by simpa using x1, ?_, ?_⟩, h.nh, h.ni, h.na, h.pk, h.hN, ?_⟩
  · have o1 := own_put h.oh m (.bool true)
    have : ((List.range N).map fun i => Value.bool (K (i + 1)).isSome).set m (.bool true) = (List.range N).map fun i => Value.bool (upd K (m + 1) (some t) (i + 1)).isSome := by
      have := range_set (f := fun i => Value.bool (K (i + 1)).isSome) (g := fun i => Value.bool (upd K (m + 1) (some t) (i + 1)).isSome) hm (fun i hi => by simp [upd, hi])
      rw [← this]
      simp [upd]
    rw [this] at o1
    have ne : ∀ b, (Value.slice (some ⟨gh, 0, none⟩) N ch).ownBlock = some b → b = gh := fun b e => by simpa [Value.ownBlock] using e.symm
    exact own_oth (own_oth (own_oth o1 (fun e => na (ne gi e).symm) _ _) (fun e => na (ne gi e).symm) _ _) (fun e => na (ne gi e).symm) _ _
  · have ne : ∀ b, (Value.slice (some ⟨gi, 0, none⟩) N ci).ownBlock = some b → b = gi := fun b e => by simpa [Value.ownBlock] using e.symm
    have o1 := own_put (own_put (own_put (own_oth x2 (fun e => na (ne gh e)) m (.bool true)) (m * 3) (.int .i64 y.n)) (m * 3 + 1) (.string y.s)) (m * 3 + 2) (.slice y.la y.ll y.lc)
    rw [flat3_set xs m (by omega) y] at o1
    exact o1
  · intro i hi u hu
    simp only [List.length_set] at hi
    by_cases e : i = m
    · subst e
      simp [upd] at hu
      subst hu
      simpa using mv hy
    · simp [upd, e] at hu
      rw [List.getElem_set_ne (fun k => e k.symm)]
      exact mv (x3 i hi u hu)
  · intro n hn
    have : n ≠ m + 1 := by omega
    simp [upd, this, h.out n hn]
end

/-- How many variables are still open. -/
def opens (K : Nat → Option Ty) (N : Nat) : Nat := ((List.range N).filter fun i => (K (i + 1)).isNone).length
theorem filter_lt {p q : Nat → Bool} : ∀ {l : List Nat} (_ : ∀ i, q i = true → p i = true) {m : Nat} (_ : m ∈ l) (_ : p m = true) (_ : q m = false), (l.filter q).length < (l.filter p).length
  | [], _, _, h, _, _ => by simp at h
  | x :: l, hi, m, h, hp, hq => by
      have hle : ∀ l : List Nat, (l.filter q).length ≤ (l.filter p).length := by
        intro l
        induction l with
        | nil => simp
        | cons y l ih =>
          simp only [List.filter_cons]
          split
          · rename_i hy; simp [hi y hy]; exact ih
          · split
            · simp; omega
            · exact ih
      simp only [List.filter_cons]
      rcases List.mem_cons.1 h with rfl | h
      · simp [hp, hq]
        have := hle l
        omega
      · have ih := filter_lt (l := l) hi h hp hq
        split
        · rename_i hx; simp [hi x hx]; exact ih
        · split
          · simp; omega
          · exact ih
theorem opens_lt {K : Nat → Option Ty} {N m : Nat} {t : Ty} (h : m < N) (e : K (m + 1) = none) : opens (upd K (m + 1) (some t)) N < opens K N := by
  refine filter_lt (fun i hi => ?_) (List.mem_range.2 h) (by simp [e]) (by simp [upd])
  by_cases k : i = m
  · subst k; simp [e]
  · simpa [upd, k] using hi
end Go.Proofs.YtfflpeklkfjdnaaGreatDoor
namespace Go.Proofs.YtfflpeklkfjdnaaGreatDoor
open Go Go.RowKit Un

/-- What making two types one promises. -/
def EqPost (kb : Nat) (hv iv : Value) (N : Nat) (P : Nat → Prop) (K : Nat → Option Ty) (R : Nat → Ty) (a b : Ty) (w : World) (e : Ending) (w' : World) : Prop :=
  ∃ ok : Bool, e = .returned (.bool ok) ∧ Fr (KB hv iv) w w' ∧
    (ok = true → ∃ K' R' rk', KS w' kb hv iv N K' P ∧ Knw K' R' rk' ∧ Made R R' a b ∧ ((K' = K ∧ R' = R) ∨ opens K' N < opens K N)) ∧
    (ok = false → ∀ σ, sub σ (sub R a) ≠ sub σ (sub R b))
section
variable {kb : Nat} {hv iv : Value} {N : Nat}

theorem bind_no {K : Nat → Option Ty} {R : Nat → Ty} {rk : Nat → Nat} (hK : Knw K R rk) {n : Nat} {t2 a b : Ty} (hn : K n = none) (h2 : ∀ u, t2 = .var u → K u = none) (hne : t2 ≠ .var n) (ho : Occ n (sub R t2)) (ea : sub R (.var n) = sub R a) (eb : sub R t2 = sub R b) (σ : Nat → Ty) :
    sub σ (sub R a) ≠ sub σ (sub R b) := by
  rw [← ea, ← eb]
  cases t2 with
  | var u =>
    have := hK.open_ u (h2 u rfl)
    simp [sub, this, Occ] at ho
    exact absurd (by rw [ho]) hne
  | con c l => exact no_bind hK hn ho σ
theorem bind_yes {K : Nat → Option Ty} {R : Nat → Ty} {rk : Nat → Nat} {P : Nat → Prop} {W : World} {gh ch gi ci : Nat} (hK : Knw K R rk) {m : Nat} {t2 a b : Ty} {y : TV} (hm : m < N) (hn : K (m + 1) = none) (h2 : ∀ u, t2 = .var u → K u = none) (ho : ¬ Occ (m + 1) (sub R t2))
    (ea : sub R (.var (m + 1)) = sub R a) (eb : sub R t2 = sub R b) (h : KS W kb (.slice (some ⟨gh, 0, none⟩) N ch) (.slice (some ⟨gi, 0, none⟩) N ci) N K P) (hy : TR W P N t2 y) :
    ∃ K' R' rk', KS ((((W.setCell ⟨gh, m, none⟩ (.bool true)).setCell ⟨gi, m * 3, none⟩ (.int .i64 y.n)).setCell ⟨gi, m * 3 + 1, none⟩ (.string y.s)).setCell ⟨gi, m * 3 + 2, none⟩ (.slice y.la y.ll y.lc)) kb (.slice (some ⟨gh, 0, none⟩) N ch) (.slice (some ⟨gi, 0, none⟩) N ci) N K' P ∧ Knw K' R' rk' ∧ Made R R' a b ∧ ((K' = K ∧ R' = R) ∨ opens K' N < opens K N) := by
  obtain ⟨rk', hk'⟩ := hK.bind hn ho h2
  exact ⟨_, _, rk', h.put hm hy, hk', (Made.bind hK hn ho).of_look ea eb, Or.inr (opens_lt hm hn)⟩

theorem toList_inj {a b : ByteArray} (h : a.toList = b.toList) : a = b := by
  rw [ByteArray.toList_eq, ByteArray.toList_eq] at h
  exact ByteArray.ext (Array.ext' h)
/-- Ahead of each round of equal. -/
def EqRel (kb : Nat) (hv iv : Value) (N : Nat) (w : World) (P : Nat → Prop) (K : Nat → Option Ty) (R : Nat → Ty) (L L2 : List Ty) (C0 C1 : Array Value) (gk : Nat) (c : Value) (wr : World) : Prop :=
  ∃ (j : Nat) (K' : Nat → Option Ty) (R' : Nat → Ty) (rk' : Nat → Nat), Hid (gk = L.length - j) ∧ j ≤ L.length ∧ c = .int .i64 (j : Int) ∧ Fr (KB hv iv) w wr ∧ KS wr kb hv iv N K' P ∧ Knw K' R' rk' ∧ MadeL R R' (L.take j) (L2.take j) ∧
    Hid ((K' = K ∧ R' = R) ∨ opens K' N < opens K N) ∧ Bx wr w.heap.size C0 ∧ Bx wr (w.heap.size + 1) C1
theorem take_two {α : Type} (L : List α) (j : Nat) (h : j < L.length) : L = L.take j ++ L[j] :: L.drop (j + 1) := by
  rw [List.getElem_cons_drop, List.take_append_drop]

set_option maxRecDepth 100000 in
set_option maxHeartbeats 4000000 in
theorem equal_C : ∀ (f s : Nat) (P : Nat → Prop) (K : Nat → Option Ty) (R : Nat → Ty) (rk : Nat → Nat) (w : World), KS w kb hv iv N K P → Knw K R rk → opens K N ≤ f →
    ∀ (a b : Ty) (x y : TV), TR w P N a x → TR w P N b y → size (sub R a) ≤ s →
    Calls Tryz.prog 31 #[.pointer (some ⟨kb, 0, none⟩), x.v, y.v] w (EqPost kb hv iv N P K R a b w) := by
  intro f
  induction f using Nat.strongRecOn with
  | _ f ihf =>
  intro s
  induction s using Nat.strongRecOn with
  | _ s ihs =>
    intro P K R rk w h hK hf a b x y hx hy hs
    have H := hide h.low
    have HK := hide hK
    have IHf := hide ihf
    have IHs := hide ihs
    have hkb := h.hk
    have Hpk := hide h.pk
    have bb := ((Below.refl w.heap.size w).alloc (Nat.le_refl _) (.cells x.a 85)).alloc (by simp) (.cells y.a 85)
    have HX := hide (hx.low.bel bb)
    have HY := hide hy.low
    have H1 := hide (h.low.bel bb)
    have B0 := hide ((Bx.new w x.a 85).alloc (.cells y.a 85))
    have B1 := hide (Bx.at (w.alloc (.cells x.a 85)) y.a 85 (w.heap.size + 1) (by simp))
    have HB := hide bb
    have Hs := hide hs
    have Hf := hide hf
    clear h hx hy ihf ihs hs hK hf bb
    unfold TV.v
    go_enter Tryz.func31, Tryz.ntmps31
    obtain ⟨c0, f0, y0⟩ := unhide B0
    obtain ⟨c1, f1, y1⟩ := unhide B1
    unfold TV.a at c0 c1
    go_wp2_with fail
    refine (look_C (unhide H1) (unhide HK) (unhide HX)).mono ?_
    rintro e w1 ⟨t1, ⟨n1, s1, la, ll, lc⟩, rfl, hb, hT, hR, hO⟩
    have B0' := hide ((unhide B0).below hb)
    have B1' := hide ((unhide B1).below hb)
    have HB' := hide ((unhide HB).trans (hb.mono (by simp; omega)))
    have HT := hide (hT.back (unhide HB))
    clear hT B0 B1 HB HX H1 c0 f0 y0 c1 f1 y1 hb
    obtain ⟨c0, f0, y0⟩ := unhide B0'
    obtain ⟨c1, f1, y1⟩ := unhide B1'
    unfold TV.a at c0 c1
    unfold TV.v
    go_wp2_with fail
    have HB2 := hide ((unhide HB').set3 (b := w.heap.size) (Nat.le_refl _) (.int .i64 n1) (.string s1) (.slice la ll lc))
    have C0 := hide ((unhide B0').set3 rfl (.int .i64 n1) (.string s1) (.slice la ll lc))
    have C1 := hide ((((unhide B1').setO (b2 := w.heap.size) (by omega) 0 (.int .i64 n1)).setO (b2 := w.heap.size) (by omega) 1 (.string s1)).setO (b2 := w.heap.size) (by omega) 2 (.slice la ll lc))
    clear B0' B1' HB' c0 f0 y0 c1 f1 y1
    refine (look_C ((unhide H).bel (unhide HB2)) (unhide HK) ((unhide HY).bel (unhide HB2))).mono ?_
    rintro e w2 ⟨t2, ⟨n2, s2, la2, ll2, lc2⟩, rfl, hb, hT2, hR2, hO2⟩
    have HB3 := hide ((unhide HB2).trans (hb.mono (by have := (unhide HB2).size; omega)))
    have D0 := hide ((unhide C0).below hb)
    have D1 := hide ((unhide C1).below hb)
    have HT2 := hide (hT2.back (unhide HB2))
    clear hT2 HB2 C0 C1 HY hb
    obtain ⟨c0, f0, y0⟩ := unhide D0
    obtain ⟨c1, f1, y1⟩ := unhide D1
    unfold TV.a at c1
    unfold TV.v
    rcases (unhide HT).two with ⟨n, rfl, hn, hnN, hxx⟩ | ⟨c, L, rfl, hx1, hx2⟩
    · obtain ⟨rfl, rfl, rfl, rfl, rfl⟩ : n1 = n ∧ s1 = ⟨#[]⟩ ∧ la = none ∧ ll = 0 ∧ lc = 0 := by injection hxx with a b c d e; exact ⟨a, b, c, d, e⟩
      obtain ⟨m, rfl⟩ : ∃ m, n = m + 1 := ⟨n - 1, by omega⟩
      have hn' : (0 : Int) < ((m + 1 : Nat) : Int) := by omega
      by_cases hsame : t2 = .var (m + 1)
      · subst hsame
        obtain ⟨rfl, rfl, rfl, rfl, rfl⟩ : n2 = ((m + 1 : Nat) : Int) ∧ s2 = ⟨#[]⟩ ∧ la2 = none ∧ ll2 = 0 ∧ lc2 = 0 := by
          rcases (unhide HT2).two with ⟨u, e, _, _, hxx⟩ | ⟨c, L, e, _⟩
          · injection e with e; subst e; injection hxx with a b c d e; exact ⟨a, b, c, d, e⟩
          · cases e
        have HF := hide (hR.symm.trans hR2)
        go_wp2_with fail
        go_ret
        refine ⟨true, rfl, Fr.of ((unhide HB3).set3 (by omega) _ _ _), fun _ => ⟨K, R, rk, ?_, unhide HK, Made.refl ?_, Or.inl ⟨rfl, rfl⟩⟩, fun h => by cases h⟩
        · exact ((unhide H).bel ((unhide HB3).set3 (by omega) _ _ _)).high (unhide Hpk)
        · exact unhide HF
      · have hne : (((m : Int) + 1) == n2) = false := by
          rcases (unhide HT2).two with ⟨u, rfl, _, _, hxx⟩ | ⟨c, L, rfl, hx1, _⟩
          · injection hxx with e1; rw [e1]
            have : u ≠ m + 1 := fun e => hsame (by rw [e])
            simp; omega
          · simp only at hx1; rw [hx1]; simp; omega
        have hz : (((m : Int) + 1) == 0) = false := by simp; omega
        have hpos : (0 : Int) < (m : Int) + 1 := by omega
        have Hsame := hide hsame
        have HO := hide (hO _ rfl)
        have HR := hide hR
        have HR2 := hide hR2
        have HO2 := hide hO2
        clear hsame hO hR hR2 hO2 hn'
        go_wp2_with fail
        have HB4 := hide ((unhide HB3).set3 (b := w.heap.size + 1) (by omega) (.int .i64 n2) (.string s2) (.slice la2 ll2 lc2))
        have E1 := hide ((unhide D1).set3 rfl (.int .i64 n2) (.string s2) (.slice la2 ll2 lc2))
        have E0 := hide ((((unhide D0).setO (b2 := w.heap.size + 1) (by omega) 0 (.int .i64 n2)).setO (b2 := w.heap.size + 1) (by omega) 1 (.string s2)).setO (b2 := w.heap.size + 1) (by omega) 2 (.slice la2 ll2 lc2))
        refine (in_C (unhide HK) (m + 1) _ _ _ ((unhide H).bel (unhide HB4)) _ _ ((unhide HT2).bel (unhide HB4)) (Nat.le_refl _)).mono ?_
        rintro e w3 ⟨inside, rfl, hio, hb⟩
        have HB5 := hide ((unhide HB4).trans (hb.mono (by have := (unhide HB4).size; omega)))
        have F0 := hide ((unhide E0).below hb)
        have F1 := hide ((unhide E1).below hb)
        clear HB3 HB4 D0 D1 E0 E1 c0 f0 y0 c1 f1 y1 hb
        obtain ⟨c0, f0, y0⟩ := unhide F0
        obtain ⟨c1, f1, y1⟩ := unhide F1
        cases inside with
        | true =>
          have Hio := hide (hio.1 rfl)
          clear hio
          go_wp2_with fail
          go_ret
          exact ⟨false, rfl, Fr.of (unhide HB5), fun h => by (cases h), fun _ => bind_no (unhide HK) (unhide HO) (unhide HO2) (unhide Hsame) (unhide Hio) (unhide HR) (unhide HR2)⟩
        | false =>
          have Hio : Hid (¬ Occ (m + 1) (sub R t2)) := by intro h; have := hio.2 h; cases this
          clear hio
          obtain ⟨gh, ch, gi, ci, yy, rfl, rfl, zh, zi, d1, d2, d3⟩ := (unhide H).at hn hnN
          have k0 := (oldCell (unhide HB5) kb 0 hkb).trans (unhide H).c0
          have k1 := (oldCell (unhide HB5) kb 1 hkb).trans (unhide H).c1
          simp only [Nat.add_sub_cancel] at d1 d2
          have d1 := (oldCell (unhide HB5) gh _ zh).trans d1
          have q0 := (oldCell (unhide HB5) gi _ zi).trans (d2 0 (by omega))
          have q1 := (oldCell (unhide HB5) gi _ zi).trans (d2 1 (by omega))
          have q2 := (oldCell (unhide HB5) gi _ zi).trans (d2 2 (by omega))
          simp [TV.l] at q0 q1 q2
          obtain ⟨m1, m2⟩ := (unhide H).marks (by omega)
          have m1 : ∀ j, w3.frozen? ⟨gh, j, none⟩ = false := fun j => (oldMark (unhide HB5) gh j zh).trans (m1 j)
          have m2 : ∀ j, w3.frozen? ⟨gi, j, none⟩ = false := fun j => (oldMark (unhide HB5) gi j zi).trans (m2 j)
          have hm : (m : Int) < (N : Int) := by omega
          have hN := (unhide H).hN
          clear d2 d3
          go_wp2_with fail
          go_region
          have ngk : gh ≠ kb := fun e => (unhide H).nh (by rw [← e]; rfl)
          have ngi : gh ≠ gi := fun e => (unhide H).na gh rfl (by rw [e]; rfl)
          obtain ⟨w4, hw4⟩ : ∃ w4, w4 = (w3.setCell ⟨gh, m, none⟩ (.bool true)).drew := ⟨_, rfl⟩
          rw [← hw4]
          have o4 : ∀ b o, b ≠ gh → w4.cell? ⟨b, o, none⟩ = w3.cell? ⟨b, o, none⟩ := fun b o hb => by rw [hw4]; exact World.cell?_setCell_other _ _ _ _ (by intro e; injection e with e; exact hb e.symm)
          have m2 : ∀ j, w4.frozen? ⟨gi, j, none⟩ = false := fun j => by rw [hw4]; simpa using m2 j
          have k1 := (o4 kb 1 (Ne.symm ngk)).trans k1
          have q0 := (o4 gi _ (Ne.symm ngi)).trans q0
          have q1 := (o4 gi _ (Ne.symm ngi)).trans q1
          have q2 := (o4 gi _ (Ne.symm ngi)).trans q2
          have c0 : ∀ o, w4.cell? ⟨w.heap.size, o, none⟩ = _ := fun o => (o4 w.heap.size o (by omega)).trans (c0 o)
          have c1 : ∀ o, w4.cell? ⟨w.heap.size + 1, o, none⟩ = _ := fun o => (o4 (w.heap.size + 1) o (by omega)).trans (c1 o)
          have Hw4 := hide hw4
          clear hw4 o4 d1 k0 m1 f0 f1 y0 y1
          go_wp2_with fail
          go_region
          go_wp2_with fail
          go_ret
          have hfin := bind_yes (P := fun b => P b ∧ b < w.heap.size) (unhide HK) (by omega) (unhide HO) (unhide HO2) (unhide Hio) (unhide HR) (unhide HR2) ((unhide H).bel (unhide HB5)) ((unhide HT2).bel (unhide HB5))
          rw [unhide Hw4]
          refine ⟨true, rfl, ?_, fun _ => ?_, fun h => by (cases h)⟩
          · exact (((((Fr.of (unhide HB5)).set (Or.inl (Or.inl rfl)) _ _).drew.set (Or.inl (Or.inr rfl)) _ _).set (Or.inl (Or.inr rfl)) _ _).set (Or.inl (Or.inr rfl)) _ _).drew
          · obtain ⟨K', R', rk', a1, a2, a3, a4⟩ := hfin
            exact ⟨K', R', rk', KS.high (KS.bel a1 (Below.refl _ _).drew.drew) (unhide Hpk), a2, a3, a4⟩
    · simp only at hx1 hx2
      subst hx1 hx2
      rcases (unhide HT2).two with ⟨n, rfl, hn, hnN, hxx⟩ | ⟨c, L2, rfl, hx1, hx2⟩
      · obtain ⟨rfl, rfl, rfl, rfl, rfl⟩ : n2 = n ∧ s2 = ⟨#[]⟩ ∧ la2 = none ∧ ll2 = 0 ∧ lc2 = 0 := by injection hxx with a b c d e; exact ⟨a, b, c, d, e⟩
        obtain ⟨m, rfl⟩ : ∃ m, n = m + 1 := ⟨n - 1, by omega⟩
        have HO := hide (hO2 _ rfl)
        have HR := hide hR
        have HR2 := hide hR2
        clear hO hR hR2 hO2 hxx
        rename_i K1 A1 K0 A0
        have A1' := hide A1
        clear A1
        go_wp2_with fail
        have HB4 := (unhide HB3).set3 (b := w.heap.size + 1) (by omega) (.int .i64 ((m : Int) + 1)) (.string ⟨#[]⟩) (.slice none 0 0)
        have E1 := (unhide D1).set3 rfl (.int .i64 ((m : Int) + 1)) (.string ⟨#[]⟩) (.slice none 0 0)
        have E0 := (((unhide D0).setO (b2 := w.heap.size + 1) (by omega) 0 (.int .i64 ((m : Int) + 1))).setO (b2 := w.heap.size + 1) (by omega) 1 (.string ⟨#[]⟩)).setO (b2 := w.heap.size + 1) (by omega) 2 (.slice none 0 0)
        refine unhide A1' _ _ ?_
        clear A1' HB3 D0 D1 c0 f0 y0 c1 f1 y1
        generalize (((w2.setCell ⟨w.heap.size + 1, 0, none⟩ (.int .i64 ((m : Int) + 1))).setCell ⟨w.heap.size + 1, 1, none⟩ (.string ⟨#[]⟩)).setCell ⟨w.heap.size + 1, 2, none⟩ (.slice none 0 0)) = W3 at HB4 E0 E1 ⊢
        have HB4 := hide HB4
        have E0 := hide E0
        have E1 := hide E1
        obtain ⟨c0, f0, y0⟩ := unhide E0
        obtain ⟨c1, f1, y1⟩ := unhide E1
        have hpos : (0 : Int) < (m : Int) + 1 := by omega
        go_wp2_with fail
        have HB4 := hide (((unhide HB4).set3 (b := w.heap.size) (by omega) (.int .i64 ((m : Int) + 1)) (.string ⟨#[]⟩) (.slice none 0 0)).set3 (b := w.heap.size + 1) (by omega) (.int .i64 0) (.string s1) (.slice la ll lc))
        have E1 := hide (((((unhide E1).setO (b2 := w.heap.size) (by omega) 0 (.int .i64 ((m : Int) + 1))).setO (b2 := w.heap.size) (by omega) 1 (.string ⟨#[]⟩)).setO (b2 := w.heap.size) (by omega) 2 (.slice none 0 0)).set3 rfl (.int .i64 0) (.string s1) (.slice la ll lc))
        have E0 := hide (((((unhide E0).set3 rfl (.int .i64 ((m : Int) + 1)) (.string ⟨#[]⟩) (.slice none 0 0)).setO (b2 := w.heap.size + 1) (by omega) 0 (.int .i64 0)).setO (b2 := w.heap.size + 1) (by omega) 1 (.string s1)).setO (b2 := w.heap.size + 1) (by omega) 2 (.slice la ll lc))
        refine (in_C (unhide HK) (m + 1) _ _ _ ((unhide H).bel (unhide HB4)) _ _ ((unhide HT).bel (unhide HB4)) (Nat.le_refl _)).mono ?_
        rintro e w3 ⟨inside, rfl, hio, hb⟩
        have HB5 := hide ((unhide HB4).trans (hb.mono (by have := (unhide HB4).size; omega)))
        have F0 := hide ((unhide E0).below hb)
        have F1 := hide ((unhide E1).below hb)
        clear HB4 E0 E1 c0 f0 y0 c1 f1 y1 hb
        obtain ⟨c0, f0, y0⟩ := unhide F0
        obtain ⟨c1, f1, y1⟩ := unhide F1
        cases inside with
        | true =>
          have Hio := hide (hio.1 rfl)
          clear hio
          go_wp2_with fail
          go_ret
          exact ⟨false, rfl, Fr.of (unhide HB5), fun h => by (cases h), fun _ σ e => bind_no (unhide HK) (unhide HO) (fun _ h => by cases h) (fun h => by cases h) (unhide Hio) (unhide HR2) (unhide HR) σ e.symm⟩
        | false =>
          have Hio : Hid (¬ Occ (m + 1) (sub R (.con s1 L))) := by intro h; have := hio.2 h; cases this
          clear hio
          obtain ⟨gh, ch, gi, ci, yy, rfl, rfl, zh, zi, d1, d2, d3⟩ := (unhide H).at hn hnN
          have k0 := (oldCell (unhide HB5) kb 0 hkb).trans (unhide H).c0
          have k1 := (oldCell (unhide HB5) kb 1 hkb).trans (unhide H).c1
          simp only [Nat.add_sub_cancel] at d1 d2
          have d1 := (oldCell (unhide HB5) gh _ zh).trans d1
          have q0 := (oldCell (unhide HB5) gi _ zi).trans (d2 0 (by omega))
          have q1 := (oldCell (unhide HB5) gi _ zi).trans (d2 1 (by omega))
          have q2 := (oldCell (unhide HB5) gi _ zi).trans (d2 2 (by omega))
          simp [TV.l] at q0 q1 q2
          obtain ⟨m1, m2⟩ := (unhide H).marks (by omega)
          have m1 : ∀ j, w3.frozen? ⟨gh, j, none⟩ = false := fun j => (oldMark (unhide HB5) gh j zh).trans (m1 j)
          have m2 : ∀ j, w3.frozen? ⟨gi, j, none⟩ = false := fun j => (oldMark (unhide HB5) gi j zi).trans (m2 j)
          have hm : (m : Int) < (N : Int) := by omega
          have hN := (unhide H).hN
          clear d2 d3
          go_wp2_with fail
          go_region
          have ngk : gh ≠ kb := fun e => (unhide H).nh (by rw [← e]; rfl)
          have ngi : gh ≠ gi := fun e => (unhide H).na gh rfl (by rw [e]; rfl)
          obtain ⟨w4, hw4⟩ : ∃ w4, w4 = (w3.setCell ⟨gh, m, none⟩ (.bool true)).drew := ⟨_, rfl⟩
          rw [← hw4]
          have o4 : ∀ b o, b ≠ gh → w4.cell? ⟨b, o, none⟩ = w3.cell? ⟨b, o, none⟩ := fun b o hb => by rw [hw4]; exact World.cell?_setCell_other _ _ _ _ (by intro e; injection e with e; exact hb e.symm)
          have m2 : ∀ j, w4.frozen? ⟨gi, j, none⟩ = false := fun j => by rw [hw4]; simpa using m2 j
          have k1 := (o4 kb 1 (Ne.symm ngk)).trans k1
          have q0 := (o4 gi _ (Ne.symm ngi)).trans q0
          have q1 := (o4 gi _ (Ne.symm ngi)).trans q1
          have q2 := (o4 gi _ (Ne.symm ngi)).trans q2
          have c0 : ∀ o, w4.cell? ⟨w.heap.size, o, none⟩ = _ := fun o => (o4 w.heap.size o (by omega)).trans (c0 o)
          have c1 : ∀ o, w4.cell? ⟨w.heap.size + 1, o, none⟩ = _ := fun o => (o4 (w.heap.size + 1) o (by omega)).trans (c1 o)
          have Hw4 := hide hw4
          clear hw4 o4 d1 k0 m1 f0 f1 y0 y1
          go_wp2_with fail
          go_region
          go_wp2_with fail
          go_ret
          have hfin := bind_yes (P := fun b => P b ∧ b < w.heap.size) (unhide HK) (by omega) (unhide HO) (fun _ h => by cases h) (unhide Hio) (unhide HR2) (unhide HR) ((unhide H).bel (unhide HB5)) ((unhide HT).bel (unhide HB5))
          rw [unhide Hw4]
          refine ⟨true, rfl, ?_, fun _ => ?_, fun h => by (cases h)⟩
          · exact (((((Fr.of (unhide HB5)).set (Or.inl (Or.inl rfl)) _ _).drew.set (Or.inl (Or.inr rfl)) _ _).set (Or.inl (Or.inr rfl)) _ _).set (Or.inl (Or.inr rfl)) _ _).drew
          · obtain ⟨K', R', rk', a1, a2, a3, a4⟩ := hfin
            exact ⟨K', R', rk', KS.high (KS.bel a1 (Below.refl _ _).drew.drew) (unhide Hpk), a2, a3.swap, a4⟩
      · simp only at hx1 hx2
        subst hx1 hx2
        obtain ⟨e1, hL1, hp1⟩ := (unhide HT).parts
        obtain ⟨e2, hL2, hp2⟩ := (unhide HT2).parts
        simp only [parts] at e1 hL1 hp1 e2 hL2 hp2
        subst e1 e2
        have Hp1 := hide hp1
        have Hp2 := hide hp2
        have HR := hide hR
        have HR2 := hide hR2
        clear hp1 hp2 hO hR hR2 hO2
        rename_i K1 A1 K0 A0
        have A1' := hide A1
        clear A1
        go_wp2_with fail
        have HB4 := (unhide HB3).set3 (b := w.heap.size + 1) (by omega) (.int .i64 0) (.string s2) (.slice la2 L2.length lc2)
        have E1 := (unhide D1).set3 rfl (.int .i64 0) (.string s2) (.slice la2 L2.length lc2)
        have E0 := (((unhide D0).setO (b2 := w.heap.size + 1) (by omega) 0 (.int .i64 0)).setO (b2 := w.heap.size + 1) (by omega) 1 (.string s2)).setO (b2 := w.heap.size + 1) (by omega) 2 (.slice la2 L2.length lc2)
        refine unhide A1' _ _ ?_
        clear A1' HB3 D0 D1 c0 f0 y0 c1 f1 y1
        generalize (((w2.setCell ⟨w.heap.size + 1, 0, none⟩ (.int .i64 0)).setCell ⟨w.heap.size + 1, 1, none⟩ (.string s2)).setCell ⟨w.heap.size + 1, 2, none⟩ (.slice la2 L2.length lc2)) = W3 at HB4 E0 E1 ⊢
        have HB4 := hide HB4
        have E0 := hide E0
        have E1 := hide E1
        obtain ⟨c0, f0, y0⟩ := unhide E0
        obtain ⟨c1, f1, y1⟩ := unhide E1
        by_cases hnm : s1.toList = s2.toList
        · have hnm' := hide (toList_inj hnm)
          by_cases hlen : L.length = L2.length
          · have hlen' : (((L.length : Nat) : Int) != ((L2.length : Nat) : Int)) = false := by simp [hlen]
            have Hlen := hide hlen
            clear hlen
            go_wp2_with fail
            go_loopg [8] L.length (fun gk c wr => EqRel kb hv iv N w (fun b => P b ∧ b < w.heap.size) K R L L2 #[.int .i64 0, .string s1, .slice la L.length lc] #[.int .i64 0, .string s2, .slice la2 L2.length lc2] gk c wr)
            case atStart => exact ⟨0, K, R, rk, hide rfl, Nat.zero_le _, rfl, Fr.of (unhide HB4), (unhide H).bel (unhide HB4), unhide HK, MadeL.nil R, hide (Or.inl ⟨rfl, rfl⟩), unhide E0, unhide E1⟩
            case round =>
              clear HB4 E0 E1 c0 f0 y0 c1 f1 y1
              obtain ⟨j, K', R', rk', hgk, hj, rfl, HF, HKS, HKN, HM, HOr, E0, E1⟩ := hrel
              have HF := hide HF
              have HKS := hide HKS
              have HKN := hide HKN
              have HM := hide HM
              have E0 := hide E0
              have E1 := hide E1
              obtain ⟨c0, f0, y0⟩ := unhide E0
              obtain ⟨c1, f1, y1⟩ := unhide E1
              have c02 := c0 2
              have c12 := c1 2
              simp at c02 c12
              by_cases hlt : j < L.length
              · have hlt' : (j : Int) < (L.length : Int) := by omega
                have hlt2 : j < L2.length := by have := unhide Hlen; omega
                have hlt2' : (j : Int) < (L2.length : Int) := by omega
                obtain ⟨g, y1', rfl, ⟨zg, pg⟩, ha, hy⟩ := unhide Hp1 j hlt
                obtain ⟨g2, y2', rfl, ⟨zg2, pg2⟩, ha2, hy2⟩ := unhide Hp2 j hlt2
                have hpn : ∀ b, (P b ∧ b < w.heap.size) → ¬ KB hv iv b := fun b p k => by
                  rcases k with k | k
                  · exact ((unhide H).pk b p).2.1 k
                  · exact ((unhide H).pk b p).2.2 k
                have oc : ∀ b o, (P b ∧ b < w.heap.size) → wr.cell? ⟨b, o, none⟩ = w.cell? ⟨b, o, none⟩ := fun b o p => World.cell?_of_block (a := ⟨b, o, none⟩) ((unhide HF).block b p.2 (hpn b p))
                have g0 := (oc g _ pg).trans (ha 0 (by omega))
                have g1 := (oc g _ pg).trans (ha 1 (by omega))
                have g2' := (oc g _ pg).trans (ha 2 (by omega))
                have i0 := (oc g2 _ pg2).trans (ha2 0 (by omega))
                have i1 := (oc g2 _ pg2).trans (ha2 1 (by omega))
                have i2 := (oc g2 _ pg2).trans (ha2 2 (by omega))
                simp [TV.l] at g0 g1 g2' i0 i1 i2
                have mv : ∀ {t : Ty} {x : TV}, TR w (fun b => P b ∧ b < w.heap.size) N t x → TR wr (fun b => P b ∧ b < w.heap.size) N t x := fun hx => hx.on fun b p _ => ⟨Nat.lt_of_lt_of_le p.2 (unhide HF).size, (unhide HF).block b p.2 (hpn b p)⟩
                have HY := hide (mv hy)
                have HY2 := hide (mv hy2)
                have hcall : Hid (∀ w9, Below wr.heap.size wr w9 → Calls Tryz.prog 31 #[.pointer (some ⟨kb, 0, none⟩), y1'.v, y2'.v] w9 (EqPost kb hv iv N (fun b => P b ∧ b < w.heap.size) K' R' L[j] L2[j] w9)) := by
                  intro w9 hb9
                  rcases unhide HOr with ⟨rfl, rfl⟩ | ho
                  · have h1 := mem_size (R := R') hlt
                    have h2 := congrArg size (unhide HR)
                    simp only [sub, size] at h2
                    have h3 := unhide Hs
                    exact unhide IHs (size (sub R' L[j])) (by omega) _ _ _ _ _ ((unhide HKS).bel hb9) (unhide HKN) (unhide Hf) _ _ _ _ ((unhide HY).bel hb9) ((unhide HY2).bel hb9) (Nat.le_refl _)
                  · have h3 := unhide Hf
                    exact unhide IHf (opens K' N) (by omega) _ _ _ _ _ _ ((unhide HKS).bel hb9) (unhide HKN) (Nat.le_refl _) _ _ _ _ ((unhide HY).bel hb9) ((unhide HY2).bel hb9) (Nat.le_refl _)
                have nb0 : ¬ KB hv iv w.heap.size := fun k => by have := (unhide H).kb_lt k; omega
                have nb1 : ¬ KB hv iv (w.heap.size + 1) := fun k => by have := (unhide H).kb_lt k; omega
                clear ha ha2 hy hy2 mv oc hpn HY HY2
                unfold TV.v at hcall
                go_wp2_with fail
                go_region_with (go_at_call 31; refine (unhide hcall _ (Below.refl _ _).drew).mono ?_; rintro e w9 ⟨ok, rfl, hF9, hT9, hN9⟩)
                all_goals
                  have HF9 := hide ((unhide HF).trans ((Fr.of (Below.refl _ _).drew).trans hF9))
                  have G0 := hide ((unhide E0).drew.fr hF9 nb0)
                  have G1 := hide ((unhide E1).drew.fr hF9 nb1)
                  clear c0 f0 y0 c1 f1 y1 c02 c12 hcall hF9 g0 g1 g2' i0 i1 i2
                  cases ok with
                  | true =>
                    obtain ⟨K2, R2, rk2, a1, a2, a3, a4⟩ := hT9 rfl
                    have A1 := hide a1
                    have A2 := hide a2
                    have A3 := hide a3
                    have A4 : Hid ((K2 = K ∧ R2 = R) ∨ opens K2 N < opens K N) := by
                      rcases unhide HOr with ⟨p1, p2⟩ | p
                      · rcases a4 with ⟨q1, q2⟩ | q
                        · exact Or.inl ⟨q1.trans p1, q2.trans p2⟩
                        · exact Or.inr (p1 ▸ q)
                      · rcases a4 with ⟨q1, q2⟩ | q
                        · exact Or.inr (q1.symm ▸ p)
                        · exact Or.inr (Nat.lt_trans q p)
                    clear a1 a2 a3 a4 hT9 hN9
                    go_wp2_with fail
                    go_roundg (L.length - (j + 1))
                    case measure => rw [unhide hgk]; omega
                    case rel =>
                      refine ⟨j + 1, K2, R2, rk2, hide rfl, by omega, by go_num, unhide HF9, unhide A1, unhide A2, ?_, A4, unhide G0, unhide G1⟩
                      rw [List.take_succ_eq_append_getElem hlt, List.take_succ_eq_append_getElem hlt2]
                      exact (unhide HM).snoc (by simp; omega) (unhide A3)
                  | false =>
                    have A3 := hide (hN9 rfl)
                    clear hT9 hN9
                    go_wp2_with fail
                    go_ret
                    refine ⟨false, rfl, unhide HF9, fun h => by (cases h), fun _ σ => ?_⟩
                    rw [← unhide HR, ← unhide HR2, take_two L j hlt, take_two L2 j hlt2]
                    exact (unhide HM).no (by simp; omega) (unhide A3) _ _ σ
              · have hlt' : decide ((j : Int) < (L.length : Int)) = false := by simp; omega
                have hall : Hid (Made R R' a b) := by
                  have h1 := unhide HM
                  have h2 := unhide Hlen
                  rw [show L.take j = L from List.take_of_length_le (by omega), show L2.take j = L2 from List.take_of_length_le (by omega)] at h1
                  have h3 := h1.con s1
                  have h4 : sub R (.con s1 L2) = sub R b := by rw [unhide hnm']; exact unhide HR2
                  exact h3.of_look (unhide HR) h4
                go_wp2_with fail
                go_ret
                exact ⟨true, rfl, unhide HF, fun _ => ⟨K', R', rk', (unhide HKS).high (unhide Hpk), unhide HKN, unhide hall, unhide HOr⟩, fun h => by (cases h)⟩
          · have hlen' : (((L.length : Nat) : Int) != ((L2.length : Nat) : Int)) = true := by simp; omega
            have Hlen := hide hlen
            clear hlen
            go_wp2_with fail
            go_ret
            refine ⟨false, rfl, Fr.of (unhide HB4), fun h => by (cases h), fun _ σ => ?_⟩
            rw [← unhide HR, ← unhide HR2]
            exact clash_len (unhide Hlen)
        · have Hnm := hide (fun e : s1 = s2 => hnm (by rw [e]))
          go_wp2_with fail
          go_ret
          refine ⟨false, rfl, Fr.of (unhide HB4), fun h => by (cases h), fun _ σ => ?_⟩
          rw [← unhide HR, ← unhide HR2]
          exact clash_name (unhide Hnm)
end
end Go.Proofs.YtfflpeklkfjdnaaGreatDoor
