import Derived.BigQuiet
import Derived.Deep.LoopGhost
import Derived.Deep.QuietTactic
import Derived.Deep.RegionWith
import Derived.Test.YteneoapickhpdaaGreatDoorJGPure
import Derived.Test.YteneoapickhpdaaGreatDoorJGKit
import Derived.Test.YteneoapickhpdaaGreatDoorJGRa
set_option linter.unusedSimpArgs false
set_option linter.unusedVariables false
set_option linter.unusedSectionVars false
namespace Go.Proofs.YteneoapickhpdaaGreatDoor
open Go Go.RowKit

theorem Bx.drew {w : World} {b : Nat} {C : Array Value} (h : Bx w b C) : Bx w.drew b C := h.below (Below.refl _ _).drew
theorem Ke.below {rb : Nat} {a b c : World} (h : Ke rb a b) (k : Below b.heap.size b c) : Ke rb a c := h.trans (Ke.of k)
abbrev zNode : Array Value := #[.int .i64 0, .string ⟨#[]⟩, .int .i64 0, .slice none 0 0, .int .i64 0, .int .i64 0, .int .i64 0]
abbrev zTok : Array Value := #[.int .i64 0, .string ⟨#[]⟩, .int .i64 0, .int .i64 0]
abbrev tokC (t : Pu.Tok) : Array Value := #[.int .i64 (t.kind : Int), .string t.text, .int .i64 (t.frm : Int), .int .i64 (t.to : Int)]
section
variable {rb g cap : Nat} {T : List Pu.Tok} {σ : St} {w : World}

end
end Go.Proofs.YteneoapickhpdaaGreatDoor
namespace Go.Proofs.YteneoapickhpdaaGreatDoor
open Go Go.RowKit
section
variable {rb g cap : Nat} {T : List Pu.Tok} {σ : St} {w : World}

theorem isT_kind {t : Pu.Tok} {s : ByteArray} (h : isT t s = true) : t.kind = 5 := by simp [isT] at h; exact h.1

end
end Go.Proofs.YteneoapickhpdaaGreatDoor
namespace Go.Proofs.YteneoapickhpdaaGreatDoor
open Go Go.RowKit

theorem Bx.at (w : World) (C : Array Value) (t : TypeId) (b : Nat) (hb : b = w.heap.size) : Bx (w.alloc (.cells C t)) b C := by subst hb; exact Bx.new w C t
theorem Bx.setS {w : World} {b : Nat} {C : Array Value} (h : Bx w b C) (j : Nat) (v : Value) (C' : Array Value) (hC : C' = C.setIfInBounds j v) (hj : j < C.size) : Bx (w.setCell ⟨b, j, none⟩ v) b C' := by
  subst hC
  refine ⟨fun o => ?_, fun o => by simp; exact h.f o, by simpa [World.setCell] using h.z⟩
  by_cases e : o = j
  · subst e
    rw [World.cell?_setCell_same _ _ _ ((h.c o).trans (Array.getElem?_eq_getElem hj))]
    simp [hj]
  · rw [World.cell?_setCell_other _ _ _ _ (by intro q; injection q with _ q; exact e q.symm), h.c o, Array.getElem?_setIfInBounds_ne (by omega)]
theorem Bx.setO {w : World} {b b2 : Nat} {C : Array Value} (h : Bx w b C) (hn : b ≠ b2) (j : Nat) (v : Value) : Bx (w.setCell ⟨b2, j, none⟩ v) b C :=
  h.same (by simp [World.setCell]) (Below.heap_setCell _ _ _ _ hn)
theorem NR.set {w : World} {P : Nat → Prop} {nd : Nd} {x : NV} (h : NR w P nd x) {b2 : Nat} (hn : ∀ b, P b → b < w.heap.size → b ≠ b2) (j : Nat) (v : Value) : NR (w.setCell ⟨b2, j, none⟩ v) P nd x :=
  h.move (by simp [World.setCell]) (fun b p hz => Below.heap_setCell _ _ _ _ (hn b p hz)) (fun _ p _ => p)

theorem NR.wide {w : World} {P : Nat → Prop} {nd : Nd} {x : NV} (h : NR w P nd x) (lo : Nat) (hq : ∀ b, P b → lo ≤ b) : NR w (fun b => lo ≤ b) nd x :=
  h.move (Nat.le_refl _) (fun _ _ _ => rfl) (fun b p _ => hq b p)
/-- A node whose parts lie in a block of the call's own. -/
theorem NR.ofBx {w : World} {P : Nat → Prop} (k : Nat) (s : ByteArray) (n : Nat) (f t a : Nat) (L : List Nd) (xs : List NV) (h0 : L ≠ []) (hl : xs.length = L.length) {g : Nat} {C : Array Value} (hB : Bx w g C) (hC : C = (flat xs).toArray)
    (hr : ∀ i (h : i < L.length), NR w P L[i] (xs[i]'(by omega))) (hP : P g) (cap : Nat) :
    NR w P (.mk k s n L f t a) ⟨k, s, n, some ⟨g, 0, none⟩, L.length, cap, f, t, a⟩ := by
  subst hC
  have hx : ∀ i (h : i < L.length), xs.getD i NV.no = xs[i]'(by omega) := fun i h => by rw [List.getD_eq_getElem?_getD, List.getElem?_eq_getElem (by omega)]; rfl
  refine .row k s n L f t a g cap (fun i => xs.getD i NV.no) h0 hP hB.z (fun i hi j hj => ?_) (fun i hi => ?_)
  · rw [hx i hi, hB.c, ← flat_at xs i j (by omega) hj]
    simp
  · rw [hx i hi]
    exact hr i hi
theorem NR.two {w : World} {P : Nat → Prop} (k : Nat) (s : ByteArray) (n : Nat) (f t a : Nat) {u v : Nd} {x y : NV} {g : Nat} {C : Array Value} (hB : Bx w g C) (hC : C = (flat [x, y]).toArray) (hu : NR w P u x) (hv : NR w P v y) (hP : P g) (cap : Nat) :
    NR w P (.mk k s n [u, v] f t a) ⟨k, s, n, some ⟨g, 0, none⟩, 2, cap, f, t, a⟩ :=
  NR.ofBx k s n f t a [u, v] [x, y] (by simp) rfl hB hC (fun i hi => by
    match i, hi with
    | 0, _ => exact hu
    | 1, _ => exact hv) hP cap
/-- What a function of the reader promises that reads a part. -/
def NodeC (rb g cap : Nat) (T : List Pu.Tok) (F : FuncId) (args : Array Value) (m : M Nd) (n : Nat) : Prop :=
  ∀ (w : World) (σ : St), SS w rb g cap T σ → (∀ k, σ = .ok k → T.length ≤ k + n) →
    Calls Tryz.prog F args w fun e w' => ∃ x : NV, e = .returned x.v ∧ Ke rb w w' ∧ SS w' rb g cap T (nx σ m) ∧ ∀ k a k', σ = .ok k → m k = .ok (a, k') → NR w' (fun b => w.heap.size ≤ b) a x
/-- It goes on from where it stood. -/
def Mono {α : Type} (m : M α) : Prop := ∀ k a k', m k = .ok (a, k') → k ≤ k'
end Go.Proofs.YteneoapickhpdaaGreatDoor
namespace Go.Proofs.YteneoapickhpdaaGreatDoor
open Go Go.RowKit Un

/-- A type's three cells. -/
structure TV where
  n : Int
  s : ByteArray
  la : Option Addr
  ll : Nat
  lc : Nat
def TV.v (x : TV) : Value := .agg #[.int .i64 x.n, .string x.s, .slice x.la x.ll x.lc]
def TV.l (x : TV) : List Value := [.int .i64 x.n, .string x.s, .slice x.la x.ll x.lc]
def TV.no : TV := ⟨0, ⟨#[]⟩, none, 0, 0⟩
def flat3 (xs : List TV) : List Value := xs.flatMap TV.l
theorem flat3_at (xs : List TV) (i j : Nat) (h : i < xs.length) (hj : j < 3) : (flat3 xs)[i * 3 + j]? = (xs[i].l)[j]? := by
  induction xs generalizing i with
  | nil => simp at h
  | cons x xs ih =>
    simp only [flat3, List.flatMap_cons]
    cases i with
    | zero => rw [List.getElem?_append_left (by simp [TV.l]; omega)]; simp
    | succ i =>
      rw [List.getElem?_append_right (by simp [TV.l]; omega)]
      have : (i + 1) * 3 + j - x.l.length = i * 3 + j := by simp [TV.l]; omega
      rw [this]
      exact ih i (by simpa using h)
/-- The three cells as they lie in a row. -/
def at3 (w : World) (g i : Nat) (x : TV) : Prop := ∀ j, j < 3 → w.cell? ⟨g, i * 3 + j, none⟩ = (x.l)[j]?

/-- A name that may have so many types behind it. -/
def okN (c : ByteArray) (n : Nat) : Prop := c.size ≤ 1000 ∧ (c = nFn ∨ c = nPr → n = 2)
/-- A type as it lies in memory: its rows in blocks of which P holds; its variables are numbers up to N. -/
inductive TR (w : World) (P : Nat → Prop) (N : Nat) : Ty → TV → Prop where
  | var (n : Nat) (h : 0 < n) (hN : n ≤ N) : TR w P N (.var n) ⟨n, ⟨#[]⟩, none, 0, 0⟩
  | leaf (c : ByteArray) (hw : okN c 0) : TR w P N (.con c []) ⟨0, c, none, 0, 0⟩
  | row (c : ByteArray) (L : List Ty) (g cap : Nat) (xs : Nat → TV) (hw : okN c L.length) (h0 : L ≠ []) (hL : L.length ≤ 1001) (hP : P g) (hz : g < w.heap.size) (hc : ∀ i, i < L.length → at3 w g i (xs i)) (hr : ∀ i (h : i < L.length), TR w P N L[i] (xs i)) :
      TR w P N (.con c L) ⟨0, c, some ⟨g, 0, none⟩, L.length, cap⟩

theorem TR.move {w w' : World} {P Q : Nat → Prop} {N N' : Nat} {t : Ty} {x : TV} (h : TR w P N t x) (hn : N ≤ N') (hs : w.heap.size ≤ w'.heap.size) (hb : ∀ b, P b → b < w.heap.size → w'.heap[b]? = w.heap[b]?) (hq : ∀ b, P b → b < w.heap.size → Q b) : TR w' Q N' t x := by
  induction h with
  | var n h hN => exact .var n h (Nat.le_trans hN hn)
  | leaf c hw => exact .leaf c hw
  | row c L g cap xs hw h0 hL hP hz hc hr ih =>
    refine .row c L g cap xs hw h0 hL (hq g hP hz) (Nat.lt_of_lt_of_le hz hs) (fun i hi j hj => ?_) ih
    rw [World.cell?_of_block (a := ⟨g, i * 3 + j, none⟩) (w := w) (hb g hP hz)]
    exact hc i hi j hj
theorem TR.bel {w w' : World} {P : Nat → Prop} {N : Nat} {t : Ty} {x : TV} (h : TR w P N t x) (hb : Below w.heap.size w w') : TR w' P N t x := h.move (Nat.le_refl _) hb.size (fun b _ hz => hb.block b hz) (fun _ p _ => p)
theorem TR.on {w w' : World} {P : Nat → Prop} {N : Nat} {t : Ty} {x : TV} (h : TR w P N t x) (hb : ∀ b, P b → b < w.heap.size → b < w'.heap.size ∧ w'.heap[b]? = w.heap[b]?) : TR w' P N t x := by
  induction h with
  | var n h hN => exact .var n h hN
  | leaf c hw => exact .leaf c hw
  | row c L g cap xs hw h0 hL hP hz hc hr ih =>
    refine .row c L g cap xs hw h0 hL hP (hb g hP hz).1 (fun i hi j hj => ?_) ih
    rw [World.cell?_of_block (a := ⟨g, i * 3 + j, none⟩) (w := w) (hb g hP hz).2]
    exact hc i hi j hj
theorem TR.low {w : World} {P : Nat → Prop} {N : Nat} {t : Ty} {x : TV} (h : TR w P N t x) : TR w (fun b => P b ∧ b < w.heap.size) N t x := h.move (Nat.le_refl _) (Nat.le_refl _) (fun _ _ _ => rfl) (fun _ p z => ⟨p, z⟩)
/-- Back to where a call began: its rows are all elder. -/
theorem TR.back {w w' : World} {P : Nat → Prop} {N : Nat} {t : Ty} {x : TV} (h : TR w' (fun b => P b ∧ b < w.heap.size) N t x) (hb : Below w.heap.size w w') : TR w (fun b => P b ∧ b < w.heap.size) N t x :=
  h.on fun b p _ => ⟨p.2, (hb.block b p.2).symm⟩
end Go.Proofs.YteneoapickhpdaaGreatDoor
namespace Go.Proofs.YteneoapickhpdaaGreatDoor
open Go Go.RowKit Un

/-- How far a type's head is known. -/
def far (rk : Nat → Nat) : Ty → Nat
  | .var n => rk n + 1
  | .con _ _ => 0
abbrev zTy : Array Value := #[.int .i64 0, .string ⟨#[]⟩, .slice none 0 0]
def TV.a (x : TV) : Array Value := #[.int .i64 x.n, .string x.s, .slice x.la x.ll x.lc]
theorem Bx.set3 {w : World} {b : Nat} {C : Array Value} (h : Bx w b C) (hC : C.size = 3) (v0 v1 v2 : Value) : Bx (((w.setCell ⟨b, 0, none⟩ v0).setCell ⟨b, 1, none⟩ v1).setCell ⟨b, 2, none⟩ v2) b #[v0, v1, v2] := by
  obtain ⟨a0, a1, a2, rfl⟩ : ∃ a0 a1 a2, C = #[a0, a1, a2] := by
    obtain ⟨l⟩ := C
    match l, hC with
    | [a, b, c], _ => exact ⟨a, b, c, rfl⟩
  exact ((h.setS 0 v0 #[v0, a1, a2] rfl (by simp)).setS 1 v1 #[v0, v1, a2] rfl (by simp)).setS 2 v2 #[v0, v1, v2] rfl (by simp)
theorem _root_.Go.RowKit.Below.drewN {B : Nat} {a w : World} (h : Below B a w) (n : Nat) : Below B a (w.drewN n) := ⟨h.os, h.tape, h.output, h.size, h.block⟩
theorem Bx.drewN {w : World} {b : Nat} {C : Array Value} (h : Bx w b C) (n : Nat) : Bx (w.drewN n) b C := h.below ((Below.refl _ _).drewN n)
theorem _root_.Go.RowKit.Below.set3 {B : Nat} {a w : World} (h : Below B a w) {b : Nat} (hb : B ≤ b) (v0 v1 v2 : Value) : Below B a (((w.setCell ⟨b, 0, none⟩ v0).setCell ⟨b, 1, none⟩ v1).setCell ⟨b, 2, none⟩ v2) :=
  ((h.setCell (p := ⟨b, 0, none⟩) hb v0).setCell (p := ⟨b, 1, none⟩) hb v1).setCell (p := ⟨b, 2, none⟩) hb v2
section
variable {w : World} {kb : Nat} {hv iv : Value} {N : Nat} {K : Nat → Option Ty} {P : Nat → Prop} {R : Nat → Ty} {rk : Nat → Nat}

/-- Ahead of each round of look. -/
def LookRel (w : World) (P : Nat → Prop) (N : Nat) (R : Nat → Ty) (rk : Nat → Nat) (t0 : Ty) (gk : Nat) (wr : World) : Prop :=
  ∃ t x, Hid (gk = far rk t) ∧ Below w.heap.size w wr ∧ Bx wr w.heap.size x.a ∧ Bx wr (w.heap.size + 1) zTy ∧ TR w P N t x ∧ Hid (sub R t = sub R t0)

end
end Go.Proofs.YteneoapickhpdaaGreatDoor
namespace Go.Proofs.YteneoapickhpdaaGreatDoor
open Go Go.RowKit Un
section
variable {w : World}
set_option maxRecDepth 100000 in
set_option maxHeartbeats 800000 in
theorem pick_C (c n : Int) (h0 : -9223372036854775808 ≤ c) (h1 : c ≤ 9223372036854775807) (hn : 0 < n) (hn2 : n ≤ 1000) : Calls Tryz.prog 24 #[.int .i64 c, .int .i64 n] w fun e w' => ∃ r : Int, e = .returned (.int .i64 r) ∧ 0 ≤ r ∧ r < n ∧ w' = w := by
  by_cases hc : c < 0
  · go_enter Tryz.func24, Tryz.ntmps24
    go_wp2_with fail
    go_ret
    refine ⟨_, rfl, ?_, ?_, rfl⟩
    · show 0 ≤ -((c + 1).tmod n)
      rw [← Int.neg_tmod]
      exact Int.tmod_nonneg _ (by omega)
    · show -((c + 1).tmod n) < n
      rw [← Int.neg_tmod]
      exact Int.tmod_lt_of_pos _ hn
  · have hc' : decide (c < 0) = false := by simp; omega
    go_enter Tryz.func24, Tryz.ntmps24
    go_wp2_with fail
    go_ret
    exact ⟨_, rfl, Int.emod_nonneg _ (by omega), Int.emod_lt_of_pos _ hn, rfl⟩
/-- The raw numbers that are taken one after the other. -/
structure Src (w : World) (xb : Nat) (p : Option Addr) (len cap : Nat) (r : Nat → Int) (A : Nat) : Prop where
  b : Bx w xb #[.slice p len cap, .int .i64 (A : Int)]
  a : A ≤ len
  l : (len : Int) ≤ 9223372036854775807
  c : ∀ i, i < len → ∃ g o, p = some ⟨g, o, none⟩ ∧ g < w.heap.size ∧ g ≠ xb ∧ w.cell? ⟨g, o + i, none⟩ = some (.int .i64 (r i))
  r : ∀ i, i < len → -9223372036854775808 ≤ r i ∧ r i ≤ 9223372036854775807
variable {xb len cap : Nat} {p : Option Addr} {r : Nat → Int}
theorem Src.ke {w w' : World} {A A' : Nat} (h : Src w xb p len cap r A) (hk : Ke xb w w') (hb : Bx w' xb #[.slice p len cap, .int .i64 (A' : Int)]) (ha : A' ≤ len) : Src w' xb p len cap r A' := by
  refine ⟨hb, ha, h.l, fun i hi => ?_, h.r⟩
  obtain ⟨g, o, e, hg, hne, hc⟩ := h.c i hi
  exact ⟨g, o, e, Nat.lt_of_lt_of_le hg hk.size, hne, (World.cell?_of_block (a := ⟨g, o + i, none⟩) (w := w) (hk.block g hg hne)).trans hc⟩
theorem Src.bel {w w' : World} {A : Nat} (h : Src w xb p len cap r A) (hb : Below w.heap.size w w') : Src w' xb p len cap r A := h.ke (Ke.of hb) (h.b.below hb) h.a
def SrcPost (xb : Nat) (p : Option Addr) (len cap : Nat) (r : Nat → Int) (w w' : World) : Prop := ∃ A, Src w' xb p len cap r A ∧ Ke xb w w'
set_option maxRecDepth 100000 in
set_option maxHeartbeats 1600000 in
theorem nextK_C {A : Nat} (h : Src w xb p len cap r A) (n : Int) (hn : 0 < n) (hn2 : n ≤ 1000) : Calls Tryz.prog 14 #[.pointer (some ⟨xb, 0, none⟩), .int .i64 n] w fun e w' => ∃ q : Int, e = .returned (.int .i64 q) ∧ 0 ≤ q ∧ q < n ∧ SrcPost xb p len cap r w w' := by
  have H := hide h
  obtain ⟨c0, f0, z0⟩ := h.b
  have hl := h.l
  have ha := h.a
  by_cases hA : A < len
  · have hA' : decide ((len : Int) ≤ (A : Int)) = false := by simp; omega
    obtain ⟨g, o, rfl, hg, hne, hc⟩ := h.c A hA
    obtain ⟨r0, r1⟩ := h.r A hA
    have hA2 : (A : Int) < (len : Int) := by omega
    clear h
    go_enter Tryz.func14, Tryz.ntmps14
    go_wp2_with fail
    go_quiet (fail)
    go_wp2_with fail
    go_quiet (fail)
    go_wp2_with fail
    refine (pick_C (r A) n r0 r1 hn hn2).mono ?_
    rintro e w' ⟨q, rfl, q0, q1, rfl⟩
    go_wp2_with fail
    go_ret
    have e1 : ((A + 1 : Nat) : Int) = (A : Int) + 1 := by omega
    have hk : ∀ m, Ke xb w ((w.drewN m).setCell ⟨xb, 1, none⟩ (.int .i64 ((A : Int) + 1))) := fun m => (Ke.of ((Below.refl _ _).drewN m)).set 1 _
    exact ⟨q, rfl, q0, q1, A + 1, (unhide H).ke (hk _) (by rw [e1]; exact ((unhide H).b.drewN _).setS 1 _ _ rfl (by simp)) (by omega), hk _⟩
  · have hA' : decide ((len : Int) ≤ (A : Int)) = true := by simp; omega
    clear h
    go_enter Tryz.func14, Tryz.ntmps14
    go_wp2_with fail
    go_quiet (fail)
    go_wp2_with fail
    go_ret
    have hk : ∀ m, Ke xb w (w.drewN m) := fun m => Ke.of ((Below.refl _ _).drewN m)
    exact ⟨0, rfl, by omega, hn, A, (unhide H).ke (hk _) ((unhide H).b.drewN _) (unhide H).a, hk _⟩
/-- Raw numbers that lie in memory. -/
def Raw (w : World) (p : Option Addr) (len : Nat) (r : Nat → Int) : Prop :=
  ∀ i, i < len → (∃ g o, p = some ⟨g, o, none⟩ ∧ g < w.heap.size ∧ w.cell? ⟨g, o + i, none⟩ = some (.int .i64 (r i))) ∧ -9223372036854775808 ≤ r i ∧ r i ≤ 9223372036854775807
/-- One of some texts. -/
def Txt (w : World) (g n : Nat) (f : Nat → ByteArray) : Prop := ∀ j, j < n → w.cell? ⟨g, j, none⟩ = some (.string (f j))
set_option maxRecDepth 100000 in
set_option maxHeartbeats 1600000 in
theorem oneK_C {A : Nat} (h : Src w xb p len cap r A) {g n lc : Nat} {f : Nat → ByteArray} (ht : Txt w g n f) (hg : g < w.heap.size) (hgx : g ≠ xb) (hn : 0 < n) (hn2 : n ≤ 1000) :
    Calls Tryz.prog 18 #[.pointer (some ⟨xb, 0, none⟩), .slice (some ⟨g, 0, none⟩) n lc] w fun e w' => ∃ j, j < n ∧ e = .returned (.string (f j)) ∧ SrcPost xb p len cap r w w' := by
  have HC := hide (nextK_C h (n : Int) (by omega) (by omega))
  have HT := hide ht
  clear h ht
  go_enter Tryz.func18, Tryz.ntmps18
  go_wp2_with fail
  refine (unhide HC).mono ?_
  rintro e w' ⟨q, rfl, q0, q1, A', hs, hk⟩
  obtain ⟨j, rfl⟩ : ∃ j : Nat, q = j := ⟨q.toNat, by omega⟩
  have hj : j < n := by omega
  have c1 : w'.cell? ⟨g, j, none⟩ = some (.string (f j)) := (World.cell?_of_block (a := ⟨g, j, none⟩) (w := w) (hk.block g hg hgx)).trans (unhide HT j hj)
  have HS := hide hs
  have HK := hide hk
  clear hs hk HC
  go_wp2_with fail
  go_ret
  exact ⟨j, hj, rfl, A', unhide HS, unhide HK⟩
end
end Go.Proofs.YteneoapickhpdaaGreatDoor
namespace Go.Proofs.YteneoapickhpdaaGreatDoor
open Go Go.RowKit
section
variable {rb g cap : Nat} {T : List Pu.Tok} {σ : St} {w : World}

end
end Go.Proofs.YteneoapickhpdaaGreatDoor
namespace Go.Proofs.YteneoapickhpdaaGreatDoor
open Go Go.RowKit
section
variable {rb g cap : Nat} {T : List Pu.Tok} {σ : St} {w : World}

end
end Go.Proofs.YteneoapickhpdaaGreatDoor
namespace Go.Proofs.YteneoapickhpdaaGreatDoor
open Go Go.RowKit
section
variable {rb g cap : Nat} {T : List Pu.Tok} {σ : St} {w : World}

end
end Go.Proofs.YteneoapickhpdaaGreatDoor
namespace Go.Proofs.YteneoapickhpdaaGreatDoor
open Go Go.RowKit
section
variable {rb g cap : Nat} {T : List Pu.Tok} {σ : St} {w : World}

end
end Go.Proofs.YteneoapickhpdaaGreatDoor
namespace Go.Proofs.YteneoapickhpdaaGreatDoor
open Go Go.RowKit Un

def parts : Ty → List Ty
  | .var _ => []
  | .con _ l => l
theorem TR.parts {w : World} {P : Nat → Prop} {N : Nat} {t : Ty} {x : TV} (h : TR w P N t x) :
    x.ll = (parts t).length ∧ (parts t).length ≤ 1001 ∧ ∀ i (hi : i < (parts t).length), ∃ g y, x.la = some ⟨g, 0, none⟩ ∧ (g < w.heap.size ∧ P g) ∧ at3 w g i y ∧ TR w P N ((parts t)[i]) y := by
  cases h with
  | var n => exact ⟨rfl, by simp [Go.Proofs.YteneoapickhpdaaGreatDoor.parts], fun i hi => by simp [Go.Proofs.YteneoapickhpdaaGreatDoor.parts] at hi⟩
  | leaf c hw => exact ⟨rfl, by simp [Go.Proofs.YteneoapickhpdaaGreatDoor.parts], fun i hi => by simp [Go.Proofs.YteneoapickhpdaaGreatDoor.parts] at hi⟩
  | row c L g cap xs hw h0 hL hP hz hc hr => exact ⟨rfl, hL, fun i hi => ⟨g, xs i, rfl, ⟨hz, hP⟩, hc i hi, hr i hi⟩⟩
theorem TR.two {w : World} {P : Nat → Prop} {N : Nat} {t : Ty} {x : TV} (h : TR w P N t x) :
    (∃ n, t = .var n ∧ 0 < n ∧ n ≤ N ∧ x = ⟨n, ⟨#[]⟩, none, 0, 0⟩) ∨ ∃ c L, t = .con c L ∧ x.n = 0 ∧ x.s = c := by
  cases h with
  | var n h hN => exact Or.inl ⟨n, rfl, h, hN, rfl⟩
  | leaf c hw => exact Or.inr ⟨c, [], rfl, rfl, rfl⟩
  | row c L => exact Or.inr ⟨c, L, rfl, rfl, rfl⟩
section
variable {kb : Nat} {hv iv : Value} {N : Nat} {K : Nat → Option Ty} {R : Nat → Ty} {rk : Nat → Nat}

def SizeRel (w : World) (R : Nat → Ty) (L : List Ty) (most : Nat) (C : Array Value) (gk : Nat) (v c : Value) (wr : World) : Prop :=
  ∃ j n : Nat, Hid (gk = L.length - j) ∧ j ≤ L.length ∧ c = .int .i64 (j : Int) ∧ v = .int .i64 (n : Int) ∧ n ≤ most + 1 ∧ Hid (n = min (1 + sizeL (subL R (L.take j))) (most + 1)) ∧ Below w.heap.size w wr ∧ Bx wr w.heap.size C

end
end Go.Proofs.YteneoapickhpdaaGreatDoor
namespace Go.Proofs.YteneoapickhpdaaGreatDoor
open Go Go.RowKit Un

section
variable {kb : Nat} {hv iv : Value} {N : Nat} {K : Nat → Option Ty} {R : Nat → Ty} {rk : Nat → Nat}

def InRel (w : World) (R : Nat → Ty) (L : List Ty) (v : Nat) (C : Array Value) (gk : Nat) (c : Value) (wr : World) : Prop :=
  ∃ j : Nat, Hid (gk = L.length - j) ∧ j ≤ L.length ∧ c = .int .i64 (j : Int) ∧ (∀ i (h : i < L.length), i < j → ¬ Occ v (sub R L[i])) ∧ Below w.heap.size w wr ∧ Bx wr w.heap.size C

open Classical in
end
end Go.Proofs.YteneoapickhpdaaGreatDoor
