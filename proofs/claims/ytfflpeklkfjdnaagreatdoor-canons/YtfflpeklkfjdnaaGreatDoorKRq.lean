import Derived.Test.YtfflpeklkfjdnaaGreatDoorKPd
set_option linter.unusedSimpArgs false
set_option linter.unusedVariables false
set_option linter.unusedSectionVars false
namespace Go.Proofs.YtfflpeklkfjdnaaGreatDoor
open Go Go.RowKit

/-- A node's seven cells. -/
structure NV where
  k : Int
  s : ByteArray
  n : Int
  la : Option Addr
  ll : Nat
  lc : Nat
  f : Int
  t : Int
  a : Int
def NV.v (x : NV) : Value := .agg #[.int .i64 x.k, .string x.s, .int .i64 x.n, .slice x.la x.ll x.lc, .int .i64 x.f, .int .i64 x.t, .int .i64 x.a]
def NV.l (x : NV) : List Value := [.int .i64 x.k, .string x.s, .int .i64 x.n, .slice x.la x.ll x.lc, .int .i64 x.f, .int .i64 x.t, .int .i64 x.a]
def NV.no : NV := ⟨0, ⟨#[]⟩, 0, none, 0, 0, 0, 0, 0⟩
def flat (xs : List NV) : List Value := xs.flatMap NV.l
theorem flat_at (xs : List NV) (i j : Nat) (h : i < xs.length) (hj : j < 7) : (flat xs)[i * 7 + j]? = (xs[i].l)[j]? := by
  induction xs generalizing i with
  | nil => simp at h
  | cons x xs ih =>
    simp only [flat, List.flatMap_cons]
    cases i with
    | zero => rw [List.getElem?_append_left (by simp [NV.l]; omega)]; simp
    | succ i =>
      rw [List.getElem?_append_right (by simp [NV.l]; omega)]
      have : (i + 1) * 7 + j - x.l.length = i * 7 + j := by simp [NV.l]; omega
      rw [this]
      exact ih i (by simpa using h)
/-- The seven cells as they lie in a row. -/
def at7 (w : World) (g i : Nat) (x : NV) : Prop := ∀ j, j < 7 → w.cell? ⟨g, i * 7 + j, none⟩ = (x.l)[j]?

/-- A node as it lies in memory: all its rows in blocks of which P holds. -/
inductive NR (w : World) (P : Nat → Prop) : Nd → NV → Prop where
  | leaf (k : Nat) (s : ByteArray) (n f t a : Nat) : NR w P (.mk k s n [] f t a) ⟨k, s, n, none, 0, 0, f, t, a⟩
  | row (k : Nat) (s : ByteArray) (n : Nat) (L : List Nd) (f t a g cap : Nat) (xs : Nat → NV) (h0 : L ≠ []) (hP : P g) (hz : g < w.heap.size) (hc : ∀ i, i < L.length → at7 w g i (xs i)) (hr : ∀ i (h : i < L.length), NR w P L[i] (xs i)) :
      NR w P (.mk k s n L f t a) ⟨k, s, n, some ⟨g, 0, none⟩, L.length, cap, f, t, a⟩

theorem NR.move {w w' : World} {P Q : Nat → Prop} {nd : Nd} {x : NV} (h : NR w P nd x) (hs : w.heap.size ≤ w'.heap.size) (hb : ∀ b, P b → b < w.heap.size → w'.heap[b]? = w.heap[b]?) (hq : ∀ b, P b → b < w.heap.size → Q b) : NR w' Q nd x := by
  induction h with
  | leaf k s n f t a => exact .leaf k s n f t a
  | row k s n L f t a g cap xs h0 hP hz hc hr ih =>
    refine .row k s n L f t a g cap xs h0 (hq g hP hz) (Nat.lt_of_lt_of_le hz hs) (fun i hi j hj => ?_) ih
    rw [World.cell?_of_block (a := ⟨g, i * 7 + j, none⟩) (w := w) (hb g hP hz)]
    exact hc i hi j hj
theorem NR.bel {w w' : World} {P : Nat → Prop} {nd : Nd} {x : NV} (h : NR w P nd x) (hb : Below w.heap.size w w') : NR w' P nd x := h.move hb.size (fun b _ hz => hb.block b hz) (fun _ p _ => p)
theorem NR.ke {rb : Nat} {w w' : World} {P : Nat → Prop} {nd : Nd} {x : NV} (h : NR w P nd x) (hb : Ke rb w w') (hn : ∀ b, P b → b ≠ rb) : NR w' P nd x := h.move hb.size (fun b p hz => hb.block b hz (hn b p)) (fun _ p _ => p)

/-- A new row of nodes, and the node whose parts they are. -/
theorem NR.new {w : World} {P : Nat → Prop} (k : Nat) (s : ByteArray) (n : Nat) (f t a : Nat) (L : List Nd) (xs : List NV) (h0 : L ≠ []) (hl : xs.length = L.length) (tt : TypeId)
    (hr : ∀ i (h : i < L.length), NR w P L[i] (xs[i]'(by omega))) (hP : P w.heap.size) (b : Nat) (hb : b = w.heap.size) (cap : Nat) :
    NR (w.alloc (.cells (flat xs).toArray tt)) P (.mk k s n L f t a) ⟨k, s, n, some ⟨b, 0, none⟩, L.length, cap, f, t, a⟩ := by
  subst hb
  refine .row k s n L f t a w.heap.size cap (fun i => xs.getD i NV.no) h0 hP (by simp) (fun i hi j hj => ?_) (fun i hi => ?_)
  · have : xs.getD i NV.no = xs[i]'(by omega) := by rw [List.getD_eq_getElem?_getD, List.getElem?_eq_getElem (by omega)]; rfl
    rw [this]
    simp only [World.cell?_alloc_new]
    rw [← flat_at xs i j (by omega) hj]
    simp
  · have : xs.getD i NV.no = xs[i]'(by omega) := by rw [List.getD_eq_getElem?_getD, List.getElem?_eq_getElem (by omega)]; rfl
    rw [this]
    exact (hr i hi).bel ((Below.refl _ _).alloc (Nat.le_refl _) _)
end Go.Proofs.YtfflpeklkfjdnaaGreatDoor
