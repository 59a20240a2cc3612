import Derived.BigQuiet
import Derived.BigRegion
import Derived.Deep.LoopGhost
import Derived.Deep.QuietTactic
import Derived.Test.YteneoapickhpdaaGreatDoorJGPure
import Derived.Test.YteneoapickhpdaaGreatDoorJGWh
set_option linter.unusedSimpArgs false
set_option linter.unusedVariables false
set_option linter.unusedSectionVars false
namespace Go.Proofs.YteneoapickhpdaaGreatDoor
open Go Go.RowKit

/-- A fault: its kind, from where to where. -/
structure Fl where
  kind : Nat
  frm : Nat
  to : Nat
def noFl : Fl := ⟨0, 0, 0⟩
/-- The fault of a token that may not stand where it stands. -/
def flOf (t : Pu.Tok) : Fl := if t.kind = 6 then ⟨2, t.frm, t.to⟩ else ⟨3, t.frm, t.to⟩

/-- The document's reader as it lies in memory: the tokens T, the place k, what is wrong f. -/
structure RS (w : World) (rb g cap : Nat) (T : List Pu.Tok) (k : Nat) (f : Fl) : Prop where
  c0 : w.cell? ⟨rb, 0, none⟩ = some (.slice (some ⟨g, 0, none⟩) T.length cap)
  c1 : w.cell? ⟨rb, 1, none⟩ = some (.int .i64 (k : Int))
  c2 : w.cell? ⟨rb, 2, none⟩ = some (.int .i64 (f.kind : Int))
  c3 : w.cell? ⟨rb, 3, none⟩ = some (.int .i64 (f.frm : Int))
  c4 : w.cell? ⟨rb, 4, none⟩ = some (.int .i64 (f.to : Int))
  fz : ∀ j, w.frozen? ⟨rb, j, none⟩ = false
  tk : ∀ i (h : i < T.length), w.cell? ⟨g, i * 4, none⟩ = some (.int .i64 (T[i].kind : Int)) ∧ w.cell? ⟨g, i * 4 + 1, none⟩ = some (.string T[i].text) ∧ w.cell? ⟨g, i * 4 + 2, none⟩ = some (.int .i64 (T[i].frm : Int)) ∧ w.cell? ⟨g, i * 4 + 3, none⟩ = some (.int .i64 (T[i].to : Int))
  hr : rb < w.heap.size
  hg : g < w.heap.size
  ne : g ≠ rb
  hk : k < T.length
  hT : T.length ≤ 1001
  en : ∀ i (h : i < T.length), T[i].kind ≠ 7 → i + 1 < T.length

/-- Nothing old has turned but the block rb. -/
structure Ke (rb : Nat) (w w' : World) : Prop where
  os : w'.os = w.os
  tape : w'.tape = w.tape
  output : w'.output = w.output
  size : w.heap.size ≤ w'.heap.size
  block : ∀ k, k < w.heap.size → k ≠ rb → w'.heap[k]? = w.heap[k]?
theorem Ke.refl (rb : Nat) (w : World) : Ke rb w w := ⟨rfl, rfl, rfl, Nat.le_refl _, fun _ _ _ => rfl⟩
theorem Ke.of {rb : Nat} {w w' : World} (h : Below w.heap.size w w') : Ke rb w w' := ⟨h.os, h.tape, h.output, h.size, fun k hk _ => h.block k hk⟩
theorem Ke.trans {rb : Nat} {a b c : World} (h : Ke rb a b) (k : Ke rb b c) : Ke rb a c :=
  ⟨k.os.trans h.os, k.tape.trans h.tape, k.output.trans h.output, Nat.le_trans h.size k.size, fun i hi hn => (k.block i (Nat.lt_of_lt_of_le hi h.size) hn).trans (h.block i hi hn)⟩
theorem Ke.drew {rb : Nat} {a w : World} (h : Ke rb a w) : Ke rb a w.drew := ⟨h.os, h.tape, h.output, h.size, h.block⟩
theorem Ke.alloc {rb : Nat} {a w : World} (h : Ke rb a w) (o : Obj) : Ke rb a (w.alloc o) := h.trans (Ke.of ((Below.refl _ _).alloc (Nat.le_refl _) o))
theorem Ke.set {rb : Nat} {a w : World} (h : Ke rb a w) (j : Nat) (u : Value) : Ke rb a (w.setCell ⟨rb, j, none⟩ u) :=
  h.trans ⟨rfl, rfl, rfl, by simp [World.setCell], fun k _ hn => Below.heap_setCell _ _ _ _ hn⟩
theorem Ke.cell {rb : Nat} {w w' : World} (h : Ke rb w w') {b o : Nat} (hb : b < w.heap.size) (hn : b ≠ rb) : w'.cell? ⟨b, o, none⟩ = w.cell? ⟨b, o, none⟩ := World.cell?_of_block (a := ⟨b, o, none⟩) (h.block b hb hn)

theorem RS.below {w w' : World} {rb g cap : Nat} {T : List Pu.Tok} {k : Nat} {f : Fl} (h : RS w rb g cap T k f) (hb : Below w.heap.size w w') : RS w' rb g cap T k f := by
  have hc := oldCell hb
  have hf := oldMark hb
  have hs := hb.size
  refine ⟨by rw [hc _ _ h.hr]; exact h.c0, by rw [hc _ _ h.hr]; exact h.c1, by rw [hc _ _ h.hr]; exact h.c2, by rw [hc _ _ h.hr]; exact h.c3, by rw [hc _ _ h.hr]; exact h.c4, fun j => by rw [hf _ _ h.hr]; exact h.fz j, fun i hi => ?_, Nat.lt_of_lt_of_le h.hr hs, Nat.lt_of_lt_of_le h.hg hs, h.ne, h.hk, h.hT, h.en⟩
  rw [hc _ _ h.hg, hc _ _ h.hg, hc _ _ h.hg, hc _ _ h.hg]
  exact h.tk i hi

end Go.Proofs.YteneoapickhpdaaGreatDoor
namespace Go.Proofs.YteneoapickhpdaaGreatDoor
open Go Go.RowKit

def isB (f : Fl) (t : Pu.Tok) (s : ByteArray) : Bool := f.kind == 0 && t.kind == 5 && t.text.toList == s.toList
def ofB (f : Fl) (t : Pu.Tok) (n : Nat) : Bool := f.kind == 0 && t.kind == n

end Go.Proofs.YteneoapickhpdaaGreatDoor
namespace Go.Proofs.YteneoapickhpdaaGreatDoor
open Go Go.RowKit

/-- The place behind the next token. -/
def nextK (T : List Pu.Tok) (k : Nat) : Nat := if (T[k]?.map (·.kind)) = some 7 then k else k + 1

end Go.Proofs.YteneoapickhpdaaGreatDoor
namespace Go.Proofs.YteneoapickhpdaaGreatDoor
open Go Go.RowKit

/-- The token at a place. -/
def tk (T : List Pu.Tok) (k : Nat) : Pu.Tok := T.getD k ⟨7, ⟨#[]⟩, 0, 0⟩
theorem tk_eq {T : List Pu.Tok} {k : Nat} (h : k < T.length) : T[k]'h = tk T k := by
  unfold tk; rw [List.getD_eq_getElem?_getD, List.getElem?_eq_getElem h]; rfl
def isT (t : Pu.Tok) (s : ByteArray) : Bool := t.kind == 5 && t.text.toList == s.toList
/-- A place, or what is wrong. -/
abbrev St := Except Fl Nat
/-- What reads from a place on: what it is and the place behind it, or what is wrong. -/
abbrev M (α : Type) := Nat → Except Fl (α × Nat)
def nx {α : Type} (σ : St) (m : M α) : St := match σ with
  | .error e => .error e
  | .ok k => match m k with
    | .error e => .error e
    | .ok (_, k') => .ok k'
def isS (T : List Pu.Tok) (σ : St) (s : ByteArray) : Bool := match σ with
  | .ok k => isT (tk T k) s
  | .error _ => false
def ofS (T : List Pu.Tok) (σ : St) (n : Nat) : Bool := match σ with
  | .ok k => (tk T k).kind == n
  | .error _ => false
def okS (σ : St) : Bool := match σ with
  | .ok _ => true
  | .error _ => false
def wrongM {α : Type} (T : List Pu.Tok) : M α := fun k => .error (flOf (tk T k))
def wantM (T : List Pu.Tok) (s : ByteArray) : M Unit := fun k => if isT (tk T k) s = true then .ok ((), k + 1) else .error (flOf (tk T k))
def nameM (T : List Pu.Tok) (n : Nat) : M Pu.Tok := fun k => if (tk T k).kind == n then .ok (tk T k, k + 1) else .error (flOf (tk T k))
def lastK (T : List Pu.Tok) (k : Nat) : Nat := if k = 0 then 0 else (tk T (k - 1)).to
theorem flOf_kind (t : Pu.Tok) : (flOf t).kind ≠ 0 := by unfold flOf; split <;> simp

/-- The reader in memory at a state. -/
def SS (w : World) (rb g cap : Nat) (T : List Pu.Tok) (σ : St) : Prop := match σ with
  | .ok k => RS w rb g cap T k noFl
  | .error f => f.kind ≠ 0 ∧ ∃ k, RS w rb g cap T k f
theorem SS.any {w : World} {rb g cap : Nat} {T : List Pu.Tok} {σ : St} (h : SS w rb g cap T σ) : ∃ k f, RS w rb g cap T k f ∧ (σ = .ok k ∧ f = noFl ∨ (σ = .error f ∧ f.kind ≠ 0)) := by
  cases σ with
  | ok k => exact ⟨k, noFl, h, Or.inl ⟨rfl, rfl⟩⟩
  | error f => obtain ⟨hf, k, h⟩ := h; exact ⟨k, f, h, Or.inr ⟨rfl, hf⟩⟩
theorem SS.below {w w' : World} {rb g cap : Nat} {T : List Pu.Tok} {σ : St} (h : SS w rb g cap T σ) (hb : Below w.heap.size w w') : SS w' rb g cap T σ := by
  cases σ with
  | ok k => exact RS.below h hb
  | error f => obtain ⟨hf, k, h⟩ := h; exact ⟨hf, k, h.below hb⟩
theorem SS.hr {w : World} {rb g cap : Nat} {T : List Pu.Tok} {σ : St} (h : SS w rb g cap T σ) : rb < w.heap.size := by
  obtain ⟨k, f, h, _⟩ := h.any; exact h.hr

section
variable {rb g cap : Nat} {T : List Pu.Tok} {σ : St} {w : World}

end
end Go.Proofs.YteneoapickhpdaaGreatDoor
namespace Go.Proofs.YteneoapickhpdaaGreatDoor
open Go Go.RowKit

/-- A block of the caller's own, with these cells. -/
structure Bx (w : World) (b : Nat) (C : Array Value) : Prop where
  c : ∀ o, w.cell? ⟨b, o, none⟩ = C[o]?
  f : ∀ o, w.frozen? ⟨b, o, none⟩ = false
  z : b < w.heap.size
theorem Bx.new (w : World) (C : Array Value) (t : TypeId) : Bx (w.alloc (.cells C t)) w.heap.size C := ⟨fun o => by simp, fun o => by simp, by simp⟩
theorem Bx.same {w w' : World} {b : Nat} {C : Array Value} (h : Bx w b C) (hs : w.heap.size ≤ w'.heap.size) (hb : w'.heap[b]? = w.heap[b]?) : Bx w' b C :=
  ⟨fun o => by rw [World.cell?_of_block (a := ⟨b, o, none⟩) (w := w) hb]; exact h.c o, fun o => by rw [World.frozen?_of_block (a := ⟨b, o, none⟩) (w := w) hb]; exact h.f o, Nat.lt_of_lt_of_le h.z hs⟩
theorem Bx.below {w w' : World} {b : Nat} {C : Array Value} (h : Bx w b C) (hb : Below w.heap.size w w') : Bx w' b C := h.same hb.size (hb.block b h.z)
theorem Bx.ke {rb : Nat} {w w' : World} {b : Nat} {C : Array Value} (h : Bx w b C) (hb : Ke rb w w') (hn : b ≠ rb) : Bx w' b C := h.same hb.size (hb.block b h.z hn)
theorem Bx.alloc {w : World} {b : Nat} {C : Array Value} (h : Bx w b C) (o : Obj) : Bx (w.alloc o) b C := h.below ((Below.refl _ _).alloc (Nat.le_refl _) o)

theorem Ke.setNew {rb : Nat} {a w : World} (h : Ke rb a w) {b : Nat} (hb : a.heap.size ≤ b) (j : Nat) (u : Value) : Ke rb a (w.setCell ⟨b, j, none⟩ u) :=
  ⟨h.os, h.tape, h.output, by simpa [World.setCell] using h.size, fun k hk hn => by rw [Below.heap_setCell _ _ _ _ (by show k ≠ b; omega)]; exact h.block k hk hn⟩
theorem RS.same {w w' : World} {rb g cap : Nat} {T : List Pu.Tok} {k : Nat} {f : Fl} (h : RS w rb g cap T k f) (hs : w.heap.size ≤ w'.heap.size) (h1 : w'.heap[rb]? = w.heap[rb]?) (h2 : w'.heap[g]? = w.heap[g]?) : RS w' rb g cap T k f := by
  have hc : ∀ o, w'.cell? ⟨rb, o, none⟩ = w.cell? ⟨rb, o, none⟩ := fun o => World.cell?_of_block (a := ⟨rb, o, none⟩) (w := w) h1
  have hf : ∀ o, w'.frozen? ⟨rb, o, none⟩ = w.frozen? ⟨rb, o, none⟩ := fun o => World.frozen?_of_block (a := ⟨rb, o, none⟩) (w := w) h1
  have hd : ∀ o, w'.cell? ⟨g, o, none⟩ = w.cell? ⟨g, o, none⟩ := fun o => World.cell?_of_block (a := ⟨g, o, none⟩) (w := w) h2
  refine ⟨by rw [hc]; exact h.c0, by rw [hc]; exact h.c1, by rw [hc]; exact h.c2, by rw [hc]; exact h.c3, by rw [hc]; exact h.c4, fun j => by rw [hf]; exact h.fz j, fun i hi => ?_, Nat.lt_of_lt_of_le h.hr hs, Nat.lt_of_lt_of_le h.hg hs, h.ne, h.hk, h.hT, h.en⟩
  rw [hd, hd, hd, hd]
  exact h.tk i hi
theorem SS.same {w w' : World} {rb g cap : Nat} {T : List Pu.Tok} {σ : St} (h : SS w rb g cap T σ) (hs : w.heap.size ≤ w'.heap.size) (h1 : w'.heap[rb]? = w.heap[rb]?) (h2 : w'.heap[g]? = w.heap[g]?) : SS w' rb g cap T σ := by
  cases σ with
  | ok k => exact RS.same h hs h1 h2
  | error f => obtain ⟨hf, k, h⟩ := h; exact ⟨hf, k, h.same hs h1 h2⟩
theorem SS.hg {w : World} {rb g cap : Nat} {T : List Pu.Tok} {σ : St} (h : SS w rb g cap T σ) : g < w.heap.size := by
  obtain ⟨k, f, h, _⟩ := h.any; exact h.hg
theorem SS.set {w : World} {rb g cap : Nat} {T : List Pu.Tok} {σ : St} (h : SS w rb g cap T σ) {b : Nat} (h1 : rb ≠ b) (h2 : g ≠ b) (j : Nat) (u : Value) : SS (w.setCell ⟨b, j, none⟩ u) rb g cap T σ :=
  h.same (by simp [World.setCell]) (Below.heap_setCell _ _ _ _ h1) (Below.heap_setCell _ _ _ _ h2)
theorem SS.alloc {w : World} {rb g cap : Nat} {T : List Pu.Tok} {σ : St} (h : SS w rb g cap T σ) (o : Obj) : SS (w.alloc o) rb g cap T σ := h.below ((Below.refl _ _).alloc (Nat.le_refl _) o)
theorem SS.drew {w : World} {rb g cap : Nat} {T : List Pu.Tok} {σ : St} (h : SS w rb g cap T σ) : SS w.drew rb g cap T σ := h.below (Below.refl _ _).drew
end Go.Proofs.YteneoapickhpdaaGreatDoor
namespace Go.Proofs.YteneoapickhpdaaGreatDoor
open Go Go.RowKit
/-- What the project's reader calls each kind of token. -/
def kindB (t : Pu.Tok) : ByteArray :=
  if t.kind = 1 then ⟨#[108, 111, 119, 32, 110, 97, 109, 101]⟩ else if t.kind = 2 then ⟨#[117, 112, 32, 110, 97, 109, 101]⟩ else if t.kind = 3 then ⟨#[97, 32, 118, 97, 114, 105, 97, 98, 108, 101]⟩
  else if t.kind = 4 then ⟨#[97, 32, 110, 117, 109, 98, 101, 114]⟩ else if t.kind = 7 then ⟨#[116, 104, 101, 32, 101, 110, 100]⟩ else t.text
def ptokV (t : Pu.Tok) : Value := .agg #[.int .i64 (t.frm : Int), .int .i64 (t.to : Int), .string (kindB t), .string t.text]
theorem idx13_0 (a0 a1 a2 a3 a4 a5 a6 a7 a8 a9 a10 a11 a12 : ByteArray) (w : World) : (Instr.index 260 (.agg #[.string a0, .string a1, .string a2, .string a3, .string a4, .string a5, .string a6, .string a7, .string a8, .string a9, .string a10, .string a11, .string a12]) (.int .i64 0)).run Tryz.prog w = .ok (.string a0) w := by kernel_rfl
theorem idx13_1 (a0 a1 a2 a3 a4 a5 a6 a7 a8 a9 a10 a11 a12 : ByteArray) (w : World) : (Instr.index 260 (.agg #[.string a0, .string a1, .string a2, .string a3, .string a4, .string a5, .string a6, .string a7, .string a8, .string a9, .string a10, .string a11, .string a12]) (.int .i64 1)).run Tryz.prog w = .ok (.string a1) w := by kernel_rfl
theorem idx13_2 (a0 a1 a2 a3 a4 a5 a6 a7 a8 a9 a10 a11 a12 : ByteArray) (w : World) : (Instr.index 260 (.agg #[.string a0, .string a1, .string a2, .string a3, .string a4, .string a5, .string a6, .string a7, .string a8, .string a9, .string a10, .string a11, .string a12]) (.int .i64 2)).run Tryz.prog w = .ok (.string a2) w := by kernel_rfl
theorem idx13_3 (a0 a1 a2 a3 a4 a5 a6 a7 a8 a9 a10 a11 a12 : ByteArray) (w : World) : (Instr.index 260 (.agg #[.string a0, .string a1, .string a2, .string a3, .string a4, .string a5, .string a6, .string a7, .string a8, .string a9, .string a10, .string a11, .string a12]) (.int .i64 3)).run Tryz.prog w = .ok (.string a3) w := by kernel_rfl
theorem idx13_4 (a0 a1 a2 a3 a4 a5 a6 a7 a8 a9 a10 a11 a12 : ByteArray) (w : World) : (Instr.index 260 (.agg #[.string a0, .string a1, .string a2, .string a3, .string a4, .string a5, .string a6, .string a7, .string a8, .string a9, .string a10, .string a11, .string a12]) (.int .i64 4)).run Tryz.prog w = .ok (.string a4) w := by kernel_rfl
theorem idx13_5 (a0 a1 a2 a3 a4 a5 a6 a7 a8 a9 a10 a11 a12 : ByteArray) (w : World) : (Instr.index 260 (.agg #[.string a0, .string a1, .string a2, .string a3, .string a4, .string a5, .string a6, .string a7, .string a8, .string a9, .string a10, .string a11, .string a12]) (.int .i64 5)).run Tryz.prog w = .ok (.string a5) w := by kernel_rfl
theorem idx13_6 (a0 a1 a2 a3 a4 a5 a6 a7 a8 a9 a10 a11 a12 : ByteArray) (w : World) : (Instr.index 260 (.agg #[.string a0, .string a1, .string a2, .string a3, .string a4, .string a5, .string a6, .string a7, .string a8, .string a9, .string a10, .string a11, .string a12]) (.int .i64 6)).run Tryz.prog w = .ok (.string a6) w := by kernel_rfl
theorem idx13_7 (a0 a1 a2 a3 a4 a5 a6 a7 a8 a9 a10 a11 a12 : ByteArray) (w : World) : (Instr.index 260 (.agg #[.string a0, .string a1, .string a2, .string a3, .string a4, .string a5, .string a6, .string a7, .string a8, .string a9, .string a10, .string a11, .string a12]) (.int .i64 7)).run Tryz.prog w = .ok (.string a7) w := by kernel_rfl
theorem idx13_8 (a0 a1 a2 a3 a4 a5 a6 a7 a8 a9 a10 a11 a12 : ByteArray) (w : World) : (Instr.index 260 (.agg #[.string a0, .string a1, .string a2, .string a3, .string a4, .string a5, .string a6, .string a7, .string a8, .string a9, .string a10, .string a11, .string a12]) (.int .i64 8)).run Tryz.prog w = .ok (.string a8) w := by kernel_rfl
theorem idx13_9 (a0 a1 a2 a3 a4 a5 a6 a7 a8 a9 a10 a11 a12 : ByteArray) (w : World) : (Instr.index 260 (.agg #[.string a0, .string a1, .string a2, .string a3, .string a4, .string a5, .string a6, .string a7, .string a8, .string a9, .string a10, .string a11, .string a12]) (.int .i64 9)).run Tryz.prog w = .ok (.string a9) w := by kernel_rfl
theorem idx13_10 (a0 a1 a2 a3 a4 a5 a6 a7 a8 a9 a10 a11 a12 : ByteArray) (w : World) : (Instr.index 260 (.agg #[.string a0, .string a1, .string a2, .string a3, .string a4, .string a5, .string a6, .string a7, .string a8, .string a9, .string a10, .string a11, .string a12]) (.int .i64 10)).run Tryz.prog w = .ok (.string a10) w := by kernel_rfl
theorem idx13_11 (a0 a1 a2 a3 a4 a5 a6 a7 a8 a9 a10 a11 a12 : ByteArray) (w : World) : (Instr.index 260 (.agg #[.string a0, .string a1, .string a2, .string a3, .string a4, .string a5, .string a6, .string a7, .string a8, .string a9, .string a10, .string a11, .string a12]) (.int .i64 11)).run Tryz.prog w = .ok (.string a11) w := by kernel_rfl
theorem idx13_12 (a0 a1 a2 a3 a4 a5 a6 a7 a8 a9 a10 a11 a12 : ByteArray) (w : World) : (Instr.index 260 (.agg #[.string a0, .string a1, .string a2, .string a3, .string a4, .string a5, .string a6, .string a7, .string a8, .string a9, .string a10, .string a11, .string a12]) (.int .i64 12)).run Tryz.prog w = .ok (.string a12) w := by kernel_rfl
theorem beq_comm' {a b : List UInt8} : (a == b) = (b == a) := by
  rw [Bool.eq_iff_iff, beq_iff_eq, beq_iff_eq]
  exact ⟨Eq.symm, Eq.symm⟩
theorem Bx.setS' {w : World} {b : Nat} {C : Array Value} (h : Bx w b C) (j : Nat) (v : Value) (C' : Array Value) (hC : C' = C.setIfInBounds j v) (hj : j < C.size) : Bx (w.setCell ⟨b, j, none⟩ v) b C' := by
  subst hC
  refine ⟨fun o => ?_, fun o => by simp; exact h.f o, by simpa [World.setCell] using h.z⟩
  by_cases e : o = j
  · subst e
    rw [World.cell?_setCell_same _ _ _ ((h.c o).trans (Array.getElem?_eq_getElem hj))]
    simp [hj]
  · rw [World.cell?_setCell_other _ _ _ _ (by intro q; injection q with _ q; exact e q.symm), h.c o, Array.getElem?_setIfInBounds_ne (by omega)]
def signs : List ByteArray := [⟨#[45, 62]⟩, ⟨#[40]⟩, ⟨#[41]⟩, ⟨#[44]⟩, ⟨#[59]⟩, ⟨#[58]⟩, ⟨#[61]⟩, ⟨#[124]⟩, ⟨#[43]⟩, ⟨#[45]⟩, ⟨#[42]⟩, ⟨#[60]⟩, ⟨#[95]⟩]
def signAt (k : Nat) : ByteArray := signs.getD k ⟨#[]⟩
theorem oldCell' {w u : World} (h : Below w.heap.size w u) (b o : Nat) (hb : b < w.heap.size) : u.cell? ⟨b, o, none⟩ = w.cell? ⟨b, o, none⟩ := World.cell?_of_block (a := ⟨b, o, none⟩) (h.block b hb)
section
variable {w : World}
set_option maxRecDepth 100000 in
set_option maxHeartbeats 400000 in
theorem cut_C (s : ByteArray) (i j : Nat) (k : ByteArray) (hij : i ≤ j) (hj : j ≤ s.size) (hs : s.size ≤ 1000) :
    Calls Tryz.prog 124 #[.string s, .int .i64 (i : Int), .int .i64 (j : Int), .string k] w fun e w' => e = .returned (.agg #[.int .i64 (i : Int), .int .i64 (j : Int), .string k, .string (s.extract i j)]) ∧ Below w.heap.size w w' := by
  have h1 : (i : Int) ≤ (j : Int) := by omega
  have h2 : (j : Int) ≤ (s.size : Int) := by omega
  go_enter Tryz.func124, Tryz.ntmps124
  go_wp2_with fail
  exact bodyPost_ret (v := .agg #[.int .i64 (i : Int), .int .i64 (j : Int), .string k, .string (s.extract i j)]) (by simp [results, Tryz.results124, go_sem]) rfl ⟨rfl, (Below.refl _ _).alloc (Nat.le_refl _) _⟩
set_option maxRecDepth 100000 in
set_option maxHeartbeats 400000 in
theorem noToken_C (i j : Int) : Calls Tryz.prog 155 #[.int .i64 i, .int .i64 j] w fun e w' => e = .returned (.agg #[.int .i64 2, .int .i64 i, .int .i64 j]) ∧ Below w.heap.size w w' := by
  go_enter Tryz.func155, Tryz.ntmps155
  go_wp2_with fail
  exact bodyPost_ret (v := .agg #[.int .i64 2, .int .i64 i, .int .i64 j]) (by simp [results, Tryz.results155, go_sem]) rfl ⟨rfl, (Below.refl _ _).alloc (Nat.le_refl _) _⟩
/-- The project's two tables lie as they were laid: the signs in the first block, the words in the second. -/
structure Laid (w : World) : Prop where
  words : ∀ j, j < 13 → w.cell? ⟨1, j, none⟩ = some (.string (Pu.wordAt j))
  signs : ∀ j, j < 13 → w.cell? ⟨0, j, none⟩ = some (.string (signAt j))
  hz : 2 ≤ w.heap.size
theorem Laid.bel {w w' : World} (h : Laid w) (hb : Below w.heap.size w w') : Laid w' :=
  ⟨fun j hj => (oldCell' hb 1 j (by have := h.hz; omega)).trans (h.words j hj), fun j hj => (oldCell' hb 0 j (by have := h.hz; omega)).trans (h.signs j hj), Nat.le_trans h.hz hb.size⟩
set_option maxRecDepth 100000 in
set_option maxHeartbeats 1000000 in
theorem isWord_C (h : Laid w) (s : ByteArray) : Calls Tryz.prog 154 #[.string s] w fun e w' => e = .returned (.bool (Pu.wordB s)) ∧ w' = w := by
  have g0 := h.words 0 (by omega)
  have g1 := h.words 1 (by omega)
  have g2 := h.words 2 (by omega)
  have g3 := h.words 3 (by omega)
  have g4 := h.words 4 (by omega)
  have g5 := h.words 5 (by omega)
  have g6 := h.words 6 (by omega)
  have g7 := h.words 7 (by omega)
  have g8 := h.words 8 (by omega)
  have g9 := h.words 9 (by omega)
  have g10 := h.words 10 (by omega)
  have g11 := h.words 11 (by omega)
  have g12 := h.words 12 (by omega)
  clear h
  go_enter Tryz.func154, Tryz.ntmps154
  go_wp2_with fail
  go_loop [6] (fun v => ∃ j : Nat, j ≤ 13 ∧ v = .int .i64 (j : Int) ∧ Hid (∀ i, i < j → (s.toList == (Pu.wordAt i).toList) = false)) (fun v => 13 - (intOf v).toNat)
  case atStart => exact ⟨0, by omega, rfl, fun i h => by omega⟩
  case round =>
    obtain ⟨j, hj, rfl, hno⟩ := hrel
    by_cases hlt : j < 13
    · have hcase : j = 0 ∨ j = 1 ∨ j = 2 ∨ j = 3 ∨ j = 4 ∨ j = 5 ∨ j = 6 ∨ j = 7 ∨ j = 8 ∨ j = 9 ∨ j = 10 ∨ j = 11 ∨ j = 12 := by omega
      rcases hcase with rfl | rfl | rfl | rfl | rfl | rfl | rfl | rfl | rfl | rfl | rfl | rfl | rfl
      · have hix := idx13_0 (Pu.wordAt 0) (Pu.wordAt 1) (Pu.wordAt 2) (Pu.wordAt 3) (Pu.wordAt 4) (Pu.wordAt 5) (Pu.wordAt 6) (Pu.wordAt 7) (Pu.wordAt 8) (Pu.wordAt 9) (Pu.wordAt 10) (Pu.wordAt 11) (Pu.wordAt 12)
        cases he : (s.toList == (Pu.wordAt 0).toList) with
        | true =>
          have hb : Hid (Pu.wordB s = true) := Pu.wordB_at (k := 0) (by omega) (by rw [beq_comm']; exact he)
          go_wp2_with fail
          go_ret
          exact ⟨retBool (unhide hb).symm, rfl⟩
        | false =>
          have hn2 : Hid (∀ i, i < 1 → (s.toList == (Pu.wordAt i).toList) = false) := fun i hi => by
            by_cases e : i = 0
            · subst e; exact he
            · exact unhide hno i (by omega)
          go_wp2_with fail
          go_round
          case rel => exact ⟨1, by omega, by go_num, hn2⟩
          case measure => simp [intOf]
      · have hix := idx13_1 (Pu.wordAt 0) (Pu.wordAt 1) (Pu.wordAt 2) (Pu.wordAt 3) (Pu.wordAt 4) (Pu.wordAt 5) (Pu.wordAt 6) (Pu.wordAt 7) (Pu.wordAt 8) (Pu.wordAt 9) (Pu.wordAt 10) (Pu.wordAt 11) (Pu.wordAt 12)
        cases he : (s.toList == (Pu.wordAt 1).toList) with
        | true =>
          have hb : Hid (Pu.wordB s = true) := Pu.wordB_at (k := 1) (by omega) (by rw [beq_comm']; exact he)
          go_wp2_with fail
          go_ret
          exact ⟨retBool (unhide hb).symm, rfl⟩
        | false =>
          have hn2 : Hid (∀ i, i < 2 → (s.toList == (Pu.wordAt i).toList) = false) := fun i hi => by
            by_cases e : i = 1
            · subst e; exact he
            · exact unhide hno i (by omega)
          go_wp2_with fail
          go_round
          case rel => exact ⟨2, by omega, by go_num, hn2⟩
          case measure => simp [intOf]
      · have hix := idx13_2 (Pu.wordAt 0) (Pu.wordAt 1) (Pu.wordAt 2) (Pu.wordAt 3) (Pu.wordAt 4) (Pu.wordAt 5) (Pu.wordAt 6) (Pu.wordAt 7) (Pu.wordAt 8) (Pu.wordAt 9) (Pu.wordAt 10) (Pu.wordAt 11) (Pu.wordAt 12)
        cases he : (s.toList == (Pu.wordAt 2).toList) with
        | true =>
          have hb : Hid (Pu.wordB s = true) := Pu.wordB_at (k := 2) (by omega) (by rw [beq_comm']; exact he)
          go_wp2_with fail
          go_ret
          exact ⟨retBool (unhide hb).symm, rfl⟩
        | false =>
          have hn2 : Hid (∀ i, i < 3 → (s.toList == (Pu.wordAt i).toList) = false) := fun i hi => by
            by_cases e : i = 2
            · subst e; exact he
            · exact unhide hno i (by omega)
          go_wp2_with fail
          go_round
          case rel => exact ⟨3, by omega, by go_num, hn2⟩
          case measure => simp [intOf]
      · have hix := idx13_3 (Pu.wordAt 0) (Pu.wordAt 1) (Pu.wordAt 2) (Pu.wordAt 3) (Pu.wordAt 4) (Pu.wordAt 5) (Pu.wordAt 6) (Pu.wordAt 7) (Pu.wordAt 8) (Pu.wordAt 9) (Pu.wordAt 10) (Pu.wordAt 11) (Pu.wordAt 12)
        cases he : (s.toList == (Pu.wordAt 3).toList) with
        | true =>
          have hb : Hid (Pu.wordB s = true) := Pu.wordB_at (k := 3) (by omega) (by rw [beq_comm']; exact he)
          go_wp2_with fail
          go_ret
          exact ⟨retBool (unhide hb).symm, rfl⟩
        | false =>
          have hn2 : Hid (∀ i, i < 4 → (s.toList == (Pu.wordAt i).toList) = false) := fun i hi => by
            by_cases e : i = 3
            · subst e; exact he
            · exact unhide hno i (by omega)
          go_wp2_with fail
          go_round
          case rel => exact ⟨4, by omega, by go_num, hn2⟩
          case measure => simp [intOf]
      · have hix := idx13_4 (Pu.wordAt 0) (Pu.wordAt 1) (Pu.wordAt 2) (Pu.wordAt 3) (Pu.wordAt 4) (Pu.wordAt 5) (Pu.wordAt 6) (Pu.wordAt 7) (Pu.wordAt 8) (Pu.wordAt 9) (Pu.wordAt 10) (Pu.wordAt 11) (Pu.wordAt 12)
        cases he : (s.toList == (Pu.wordAt 4).toList) with
        | true =>
          have hb : Hid (Pu.wordB s = true) := Pu.wordB_at (k := 4) (by omega) (by rw [beq_comm']; exact he)
          go_wp2_with fail
          go_ret
          exact ⟨retBool (unhide hb).symm, rfl⟩
        | false =>
          have hn2 : Hid (∀ i, i < 5 → (s.toList == (Pu.wordAt i).toList) = false) := fun i hi => by
            by_cases e : i = 4
            · subst e; exact he
            · exact unhide hno i (by omega)
          go_wp2_with fail
          go_round
          case rel => exact ⟨5, by omega, by go_num, hn2⟩
          case measure => simp [intOf]
      · have hix := idx13_5 (Pu.wordAt 0) (Pu.wordAt 1) (Pu.wordAt 2) (Pu.wordAt 3) (Pu.wordAt 4) (Pu.wordAt 5) (Pu.wordAt 6) (Pu.wordAt 7) (Pu.wordAt 8) (Pu.wordAt 9) (Pu.wordAt 10) (Pu.wordAt 11) (Pu.wordAt 12)
        cases he : (s.toList == (Pu.wordAt 5).toList) with
        | true =>
          have hb : Hid (Pu.wordB s = true) := Pu.wordB_at (k := 5) (by omega) (by rw [beq_comm']; exact he)
          go_wp2_with fail
          go_ret
          exact ⟨retBool (unhide hb).symm, rfl⟩
        | false =>
          have hn2 : Hid (∀ i, i < 6 → (s.toList == (Pu.wordAt i).toList) = false) := fun i hi => by
            by_cases e : i = 5
            · subst e; exact he
            · exact unhide hno i (by omega)
          go_wp2_with fail
          go_round
          case rel => exact ⟨6, by omega, by go_num, hn2⟩
          case measure => simp [intOf]
      · have hix := idx13_6 (Pu.wordAt 0) (Pu.wordAt 1) (Pu.wordAt 2) (Pu.wordAt 3) (Pu.wordAt 4) (Pu.wordAt 5) (Pu.wordAt 6) (Pu.wordAt 7) (Pu.wordAt 8) (Pu.wordAt 9) (Pu.wordAt 10) (Pu.wordAt 11) (Pu.wordAt 12)
        cases he : (s.toList == (Pu.wordAt 6).toList) with
        | true =>
          have hb : Hid (Pu.wordB s = true) := Pu.wordB_at (k := 6) (by omega) (by rw [beq_comm']; exact he)
          go_wp2_with fail
          go_ret
          exact ⟨retBool (unhide hb).symm, rfl⟩
        | false =>
          have hn2 : Hid (∀ i, i < 7 → (s.toList == (Pu.wordAt i).toList) = false) := fun i hi => by
            by_cases e : i = 6
            · subst e; exact he
            · exact unhide hno i (by omega)
          go_wp2_with fail
          go_round
          case rel => exact ⟨7, by omega, by go_num, hn2⟩
          case measure => simp [intOf]
      · have hix := idx13_7 (Pu.wordAt 0) (Pu.wordAt 1) (Pu.wordAt 2) (Pu.wordAt 3) (Pu.wordAt 4) (Pu.wordAt 5) (Pu.wordAt 6) (Pu.wordAt 7) (Pu.wordAt 8) (Pu.wordAt 9) (Pu.wordAt 10) (Pu.wordAt 11) (Pu.wordAt 12)
        cases he : (s.toList == (Pu.wordAt 7).toList) with
        | true =>
          have hb : Hid (Pu.wordB s = true) := Pu.wordB_at (k := 7) (by omega) (by rw [beq_comm']; exact he)
          go_wp2_with fail
          go_ret
          exact ⟨retBool (unhide hb).symm, rfl⟩
        | false =>
          have hn2 : Hid (∀ i, i < 8 → (s.toList == (Pu.wordAt i).toList) = false) := fun i hi => by
            by_cases e : i = 7
            · subst e; exact he
            · exact unhide hno i (by omega)
          go_wp2_with fail
          go_round
          case rel => exact ⟨8, by omega, by go_num, hn2⟩
          case measure => simp [intOf]
      · have hix := idx13_8 (Pu.wordAt 0) (Pu.wordAt 1) (Pu.wordAt 2) (Pu.wordAt 3) (Pu.wordAt 4) (Pu.wordAt 5) (Pu.wordAt 6) (Pu.wordAt 7) (Pu.wordAt 8) (Pu.wordAt 9) (Pu.wordAt 10) (Pu.wordAt 11) (Pu.wordAt 12)
        cases he : (s.toList == (Pu.wordAt 8).toList) with
        | true =>
          have hb : Hid (Pu.wordB s = true) := Pu.wordB_at (k := 8) (by omega) (by rw [beq_comm']; exact he)
          go_wp2_with fail
          go_ret
          exact ⟨retBool (unhide hb).symm, rfl⟩
        | false =>
          have hn2 : Hid (∀ i, i < 9 → (s.toList == (Pu.wordAt i).toList) = false) := fun i hi => by
            by_cases e : i = 8
            · subst e; exact he
            · exact unhide hno i (by omega)
          go_wp2_with fail
          go_round
          case rel => exact ⟨9, by omega, by go_num, hn2⟩
          case measure => simp [intOf]
      · have hix := idx13_9 (Pu.wordAt 0) (Pu.wordAt 1) (Pu.wordAt 2) (Pu.wordAt 3) (Pu.wordAt 4) (Pu.wordAt 5) (Pu.wordAt 6) (Pu.wordAt 7) (Pu.wordAt 8) (Pu.wordAt 9) (Pu.wordAt 10) (Pu.wordAt 11) (Pu.wordAt 12)
        cases he : (s.toList == (Pu.wordAt 9).toList) with
        | true =>
          have hb : Hid (Pu.wordB s = true) := Pu.wordB_at (k := 9) (by omega) (by rw [beq_comm']; exact he)
          go_wp2_with fail
          go_ret
          exact ⟨retBool (unhide hb).symm, rfl⟩
        | false =>
          have hn2 : Hid (∀ i, i < 10 → (s.toList == (Pu.wordAt i).toList) = false) := fun i hi => by
            by_cases e : i = 9
            · subst e; exact he
            · exact unhide hno i (by omega)
          go_wp2_with fail
          go_round
          case rel => exact ⟨10, by omega, by go_num, hn2⟩
          case measure => simp [intOf]
      · have hix := idx13_10 (Pu.wordAt 0) (Pu.wordAt 1) (Pu.wordAt 2) (Pu.wordAt 3) (Pu.wordAt 4) (Pu.wordAt 5) (Pu.wordAt 6) (Pu.wordAt 7) (Pu.wordAt 8) (Pu.wordAt 9) (Pu.wordAt 10) (Pu.wordAt 11) (Pu.wordAt 12)
        cases he : (s.toList == (Pu.wordAt 10).toList) with
        | true =>
          have hb : Hid (Pu.wordB s = true) := Pu.wordB_at (k := 10) (by omega) (by rw [beq_comm']; exact he)
          go_wp2_with fail
          go_ret
          exact ⟨retBool (unhide hb).symm, rfl⟩
        | false =>
          have hn2 : Hid (∀ i, i < 11 → (s.toList == (Pu.wordAt i).toList) = false) := fun i hi => by
            by_cases e : i = 10
            · subst e; exact he
            · exact unhide hno i (by omega)
          go_wp2_with fail
          go_round
          case rel => exact ⟨11, by omega, by go_num, hn2⟩
          case measure => simp [intOf]
      · have hix := idx13_11 (Pu.wordAt 0) (Pu.wordAt 1) (Pu.wordAt 2) (Pu.wordAt 3) (Pu.wordAt 4) (Pu.wordAt 5) (Pu.wordAt 6) (Pu.wordAt 7) (Pu.wordAt 8) (Pu.wordAt 9) (Pu.wordAt 10) (Pu.wordAt 11) (Pu.wordAt 12)
        cases he : (s.toList == (Pu.wordAt 11).toList) with
        | true =>
          have hb : Hid (Pu.wordB s = true) := Pu.wordB_at (k := 11) (by omega) (by rw [beq_comm']; exact he)
          go_wp2_with fail
          go_ret
          exact ⟨retBool (unhide hb).symm, rfl⟩
        | false =>
          have hn2 : Hid (∀ i, i < 12 → (s.toList == (Pu.wordAt i).toList) = false) := fun i hi => by
            by_cases e : i = 11
            · subst e; exact he
            · exact unhide hno i (by omega)
          go_wp2_with fail
          go_round
          case rel => exact ⟨12, by omega, by go_num, hn2⟩
          case measure => simp [intOf]
      · have hix := idx13_12 (Pu.wordAt 0) (Pu.wordAt 1) (Pu.wordAt 2) (Pu.wordAt 3) (Pu.wordAt 4) (Pu.wordAt 5) (Pu.wordAt 6) (Pu.wordAt 7) (Pu.wordAt 8) (Pu.wordAt 9) (Pu.wordAt 10) (Pu.wordAt 11) (Pu.wordAt 12)
        cases he : (s.toList == (Pu.wordAt 12).toList) with
        | true =>
          have hb : Hid (Pu.wordB s = true) := Pu.wordB_at (k := 12) (by omega) (by rw [beq_comm']; exact he)
          go_wp2_with fail
          go_ret
          exact ⟨retBool (unhide hb).symm, rfl⟩
        | false =>
          have hn2 : Hid (∀ i, i < 13 → (s.toList == (Pu.wordAt i).toList) = false) := fun i hi => by
            by_cases e : i = 12
            · subst e; exact he
            · exact unhide hno i (by omega)
          go_wp2_with fail
          go_round
          case rel => exact ⟨13, by omega, by go_num, hn2⟩
          case measure => simp [intOf]
    · have hb : Hid (Pu.wordB s = false) := Pu.wordB_none (fun i hi => by rw [beq_comm']; exact unhide hno i (by omega))
      go_wp2_with fail
      go_ret
      exact ⟨retBool (unhide hb).symm, rfl⟩
end
end Go.Proofs.YteneoapickhpdaaGreatDoor
namespace Go.Proofs.YteneoapickhpdaaGreatDoor
open Go Go.RowKit
section
variable {rb g cap : Nat} {T : List Pu.Tok} {σ : St} {w : World}

end
end Go.Proofs.YteneoapickhpdaaGreatDoor
namespace Go.Proofs.YteneoapickhpdaaGreatDoor
open Go Go.RowKit
section
variable {rb g cap : Nat} {T : List Pu.Tok} {σ : St} {w : World}

end

/-- A number out of its digits, nine at most. -/
def numF (s : ByteArray) : Nat → Nat
  | 0 => 0
  | k + 1 => 10 * numF s k + (Pu.at_ s k + 208) % 256
def numB (s : ByteArray) : Nat := numF s (min s.size 9)
end Go.Proofs.YteneoapickhpdaaGreatDoor
namespace Go.Proofs.YteneoapickhpdaaGreatDoor
open Go Go.RowKit

/-- A part of a program: its kind, its name, its number, its parts, its span, its name's place. -/
inductive Nd where
  | mk (kind : Nat) (s : ByteArray) (n : Nat) (L : List Nd) (frm to at_ : Nat) : Nd
/-- A node's value. -/
def nodeV (kind : Int) (s : ByteArray) (n : Int) (L : Value) (frm to at_ : Int) : Value := .agg #[.int .i64 kind, .string s, .int .i64 n, L, .int .i64 frm, .int .i64 to, .int .i64 at_]

theorem toList_mk (l : List UInt8) : (ByteArray.mk l.toArray).toList = l := by
  rw [ByteArray.toList_eq]
abbrev kTrue : ByteArray := ⟨#[116, 114, 117, 101]⟩
abbrev kFalse : ByteArray := ⟨#[102, 97, 108, 115, 101]⟩
abbrev kAny : ByteArray := ⟨#[95]⟩
abbrev kOpen : ByteArray := ⟨#[40]⟩
def leafK (t : Pu.Tok) : Nat :=
  if t.kind = 1 then 1 else if t.kind = 2 then 2 else if t.kind = 3 then 16 else if t.kind = 4 then 3
  else if isT t kTrue = true ∨ isT t kFalse = true then 4 else if isT t kAny = true then 15 else 0
def leafNum (t : Pu.Tok) : Nat := if t.kind = 4 then numB t.text else 0
def leafV (t : Pu.Tok) : Value := nodeV (leafK t : Int) t.text (leafNum t : Int) (.slice none 0 0) (t.frm : Int) (t.to : Int) (t.frm : Int)

theorem isT_mk (t : Pu.Tok) (l : List UInt8) : isT t ⟨l.toArray⟩ = (t.kind == 5 && t.text.toList == l) := by unfold isT; rw [toList_mk l]
end Go.Proofs.YteneoapickhpdaaGreatDoor
namespace Go.Proofs.YteneoapickhpdaaGreatDoor
open Go Go.RowKit

def beginsB (t : Pu.Tok) (sort : Nat) : Bool := isT t kOpen ||
  (if sort = 1 then leafK t == 16 || leafK t == 2 else if sort = 2 then leafK t == 15 || leafK t == 1 || leafK t == 2 || leafK t == 3 || leafK t == 4 else leafK t == 1 || leafK t == 2 || leafK t == 3 || leafK t == 4)
end Go.Proofs.YteneoapickhpdaaGreatDoor
namespace Go.Proofs.YteneoapickhpdaaGreatDoor
open Go Go.RowKit

abbrev kNo : ByteArray := ⟨#[]⟩
abbrev kClose : ByteArray := ⟨#[41]⟩
abbrev kComma : ByteArray := ⟨#[44]⟩
abbrev kColon : ByteArray := ⟨#[58]⟩
abbrev kArrow : ByteArray := ⟨#[45, 62]⟩
abbrev kStar : ByteArray := ⟨#[42]⟩
abbrev kPlus : ByteArray := ⟨#[43]⟩
abbrev kMinus : ByteArray := ⟨#[45]⟩
abbrev kLess : ByteArray := ⟨#[60]⟩
abbrev kFun : ByteArray := ⟨#[102, 117, 110]⟩
abbrev kLet : ByteArray := ⟨#[108, 101, 116]⟩
abbrev kRec : ByteArray := ⟨#[114, 101, 99]⟩
abbrev kIn : ByteArray := ⟨#[105, 110]⟩
abbrev kIf : ByteArray := ⟨#[105, 102]⟩
abbrev kThen : ByteArray := ⟨#[116, 104, 101, 110]⟩
abbrev kElse : ByteArray := ⟨#[101, 108, 115, 101]⟩
abbrev kMatch : ByteArray := ⟨#[109, 97, 116, 99, 104]⟩
abbrev kWith : ByteArray := ⟨#[119, 105, 116, 104]⟩
abbrev kEnd : ByteArray := ⟨#[101, 110, 100]⟩
abbrev kBar : ByteArray := ⟨#[124]⟩
abbrev kSemi : ByteArray := ⟨#[59]⟩
abbrev kEq : ByteArray := ⟨#[61]⟩
abbrev kType : ByteArray := ⟨#[116, 121, 112, 101]⟩

def leafN (t : Pu.Tok) : Nd := .mk (leafK t) t.text (leafNum t) [] t.frm t.to t.frm
def Nd.add : Nd → Nd → Nat → Nd
  | .mk k s n L f _ a, y, to => .mk k s n (L ++ [y]) f to a
def bnd {α β : Type} (m : M α) (f : α → M β) : M β := fun k => match m k with
  | .error e => .error e
  | .ok (a, k') => f a k'
section
variable (T : List Pu.Tok)
/-- `)`, and then the part that was made. -/
def closeM (mk : Nat → Nd) : M Nd := bnd (wantM T kClose) fun _ k => .ok (mk k, k)
def restM (part typ : M Nd) (sort frm : Nat) (a : Nd) : M Nd := fun k =>
  if isT (tk T k) kComma = true then bnd part (fun b => closeM T fun k' => .mk 6 kNo 0 [a, b] frm (lastK T k') frm) (k + 1)
  else if sort = 3 ∧ isT (tk T k) kColon = true then bnd typ (fun b => closeM T fun k' => .mk 14 kNo 0 [a, b] frm (lastK T k') frm) (k + 1)
  else closeM T (fun _ => a) k
def groupM (part typ : M Nd) (sort frm : Nat) : M Nd := fun k =>
  if sort ≠ 1 ∧ isT (tk T k) kClose = true then .ok (.mk 5 kNo 0 [] frm (lastK T (k + 1)) frm, k + 1)
  else bnd part (restM T part typ sort frm) k
def smallM (part typ : M Nd) (sort : Nat) : M Nd := fun k =>
  if beginsB (tk T k) sort = true then
    (if isT (tk T k) kOpen = true then groupM T part typ sort (tk T k).frm (k + 1) else .ok (leafN (tk T k), k + 1))
  else .error (flOf (tk T k))
def headF (small : M Nd) (sort : Nat) : Nat → Nd → M Nd
  | 0, x => fun k => .ok (x, k)
  | f + 1, x => fun k => if beginsB (tk T k) sort = true then bnd small (fun y k' => headF small sort f (x.add y (lastK T k')) k') k else .ok (x, k)
def headM (small : M Nd) (sort : Nat) : M Nd := fun k => if (tk T k).kind == 2 then bnd small (headF T small sort T.length) k else small k
def arrowM (typ : M Nd) (frm : Nat) (a : Nd) : M Nd := fun k =>
  if isT (tk T k) kArrow = true then bnd typ (fun b k' => .ok (.mk 17 kNo 0 [a, b] frm (lastK T k') frm, k')) (k + 1) else .ok (a, k)
def typM : Nat → M Nd
  | 0 => wrongM T
  | n + 1 => fun k => bnd (headM T (smallM T (typM n) (typM n) 1) 1) (arrowM T (typM n) (tk T k).frm) k
def patM : Nat → M Nd
  | 0 => wrongM T
  | n + 1 => headM T (smallM T (patM n) (wrongM T) 2) 2
def callF (small : M Nd) (frm : Nat) : Nat → Nd → M Nd
  | 0, x => fun k => .ok (x, k)
  | f + 1, x => fun k => if beginsB (tk T k) 3 = true then bnd small (fun y k' => callF small frm f (.mk 8 kNo 0 [x, y] frm (lastK T k') frm) k') k else .ok (x, k)
def callM (small : M Nd) : M Nd := fun k => bnd small (callF T small (tk T k).frm T.length) k
def prodF (call : M Nd) (frm : Nat) : Nat → Nd → M Nd
  | 0, x => fun k => .ok (x, k)
  | f + 1, x => fun k => if isT (tk T k) kStar = true then bnd call (fun y k' => prodF call frm f (.mk 7 kStar 0 [x, y] frm (lastK T k') frm) k') (k + 1) else .ok (x, k)
def prodM (call : M Nd) : M Nd := fun k => bnd call (prodF T call (tk T k).frm T.length) k
def sumF (prod : M Nd) (frm : Nat) : Nat → Nd → M Nd
  | 0, x => fun k => .ok (x, k)
  | f + 1, x => fun k => if isT (tk T k) kPlus = true ∨ isT (tk T k) kMinus = true then bnd prod (fun y k' => sumF prod frm f (.mk 7 (tk T k).text 0 [x, y] frm (lastK T k') frm) k') (k + 1) else .ok (x, k)
def sumM (prod : M Nd) : M Nd := fun k => bnd prod (sumF T prod (tk T k).frm T.length) k
def funM (expr : M Nd) : M Nd := fun k =>
  bnd (wantM T kFun) (fun _ => bnd (nameM T 1) fun t => bnd (wantM T kArrow) fun _ => bnd expr fun e k' => .ok (.mk 9 t.text 0 [e] (tk T k).frm (lastK T k') t.frm, k')) k
def boundM (expr : M Nd) : M (Nat × Pu.Tok × Nd) :=
  bnd (wantM T kLet) fun _ k =>
    if isT (tk T k) kRec = true then bnd (nameM T 1) (fun t => bnd (wantM T kEq) fun _ => bnd (funM T expr) fun e k' => .ok ((11, t, e), k')) (k + 1)
    else bnd (nameM T 1) (fun t => bnd (wantM T kEq) fun _ => bnd expr fun e k' => .ok ((10, t, e), k')) k
def choiceM (expr : M Nd) : M Nd := fun k =>
  bnd (wantM T kIf) (fun _ => bnd expr fun a => bnd (wantM T kThen) fun _ => bnd expr fun b => bnd (wantM T kElse) fun _ => bnd expr fun c k' => .ok (.mk 12 kNo 0 [a, b, c] (tk T k).frm (lastK T k') (tk T k).frm, k')) k
/-- The arms behind `with`, each laid behind those before. -/
def armsF (pat expr : M Nd) : Nat → List Nd → M (List Nd)
  | 0, l => fun k => .ok (l, k)
  | f + 1, l => bnd pat fun p => bnd (wantM T kArrow) fun _ => bnd expr fun e k =>
      if isT (tk T k) kBar = true then armsF pat expr f (l ++ [p, e]) (k + 1) else .ok (l ++ [p, e], k)
def matchM (pat expr : M Nd) : M Nd := fun k =>
  bnd (wantM T kMatch) (fun _ => bnd expr fun x => bnd (wantM T kWith) fun _ => bnd (armsF T pat expr T.length [x]) fun l => bnd (wantM T kEnd) fun _ k' => .ok (.mk 13 kNo 0 l (tk T k).frm (lastK T k') (tk T k).frm, k')) k
def letM (expr : M Nd) : M Nd := fun k =>
  bnd (boundM T expr) (fun b => bnd (wantM T kIn) fun _ => bnd expr fun f k' => .ok (.mk b.1 b.2.1.text 0 [b.2.2, f] (tk T k).frm (lastK T k') b.2.1.frm, k')) k
def lessM (sum : M Nd) : M Nd := fun k =>
  bnd sum (fun x k1 => if isT (tk T k1) kLess = true then bnd sum (fun y k' => .ok (.mk 7 kLess 0 [x, y] (tk T k).frm (lastK T k') (tk T k).frm, k')) (k1 + 1) else .ok (x, k1)) k
def exprM : Nat → M Nd
  | 0 => wrongM T
  | n + 1 => fun k =>
    if isT (tk T k) kFun = true then funM T (exprM n) k
    else if isT (tk T k) kIf = true then choiceM T (exprM n) k
    else if isT (tk T k) kMatch = true then matchM T (patM T n) (exprM n) k
    else if isT (tk T k) kLet = true then letM T (exprM n) k
    else lessM T (sumM T (prodM T (callM T (smallM T (exprM n) (typM T n) 3)))) k
end
end Go.Proofs.YteneoapickhpdaaGreatDoor
namespace Go.Proofs.YteneoapickhpdaaGreatDoor
open Go Go.RowKit

/-- A node's seven cells. -/
structure NV where
  k : Int
  s : ByteArray
  n : Int
  la : Option Addr
  ll : Nat
  lc : Nat
  f : Int
  t : Int
  a : Int
def NV.v (x : NV) : Value := .agg #[.int .i64 x.k, .string x.s, .int .i64 x.n, .slice x.la x.ll x.lc, .int .i64 x.f, .int .i64 x.t, .int .i64 x.a]
def NV.l (x : NV) : List Value := [.int .i64 x.k, .string x.s, .int .i64 x.n, .slice x.la x.ll x.lc, .int .i64 x.f, .int .i64 x.t, .int .i64 x.a]
def NV.no : NV := ⟨0, ⟨#[]⟩, 0, none, 0, 0, 0, 0, 0⟩
def flat (xs : List NV) : List Value := xs.flatMap NV.l
theorem flat_at (xs : List NV) (i j : Nat) (h : i < xs.length) (hj : j < 7) : (flat xs)[i * 7 + j]? = (xs[i].l)[j]? := by
  induction xs generalizing i with
  | nil => simp at h
  | cons x xs ih =>
    simp only [flat, List.flatMap_cons]
    cases i with
    | zero => rw [List.getElem?_append_left (by simp [NV.l]; omega)]; simp
    | succ i =>
      rw [List.getElem?_append_right (by simp [NV.l]; omega)]
      have : (i + 1) * 7 + j - x.l.length = i * 7 + j := by simp [NV.l]; omega
      rw [this]
      exact ih i (by simpa using h)
/-- The seven cells as they lie in a row. -/
def at7 (w : World) (g i : Nat) (x : NV) : Prop := ∀ j, j < 7 → w.cell? ⟨g, i * 7 + j, none⟩ = (x.l)[j]?

/-- A node as it lies in memory: all its rows in blocks of which P holds. -/
inductive NR (w : World) (P : Nat → Prop) : Nd → NV → Prop where
  | leaf (k : Nat) (s : ByteArray) (n f t a : Nat) : NR w P (.mk k s n [] f t a) ⟨k, s, n, none, 0, 0, f, t, a⟩
  | row (k : Nat) (s : ByteArray) (n : Nat) (L : List Nd) (f t a g cap : Nat) (xs : Nat → NV) (h0 : L ≠ []) (hP : P g) (hz : g < w.heap.size) (hc : ∀ i, i < L.length → at7 w g i (xs i)) (hr : ∀ i (h : i < L.length), NR w P L[i] (xs i)) :
      NR w P (.mk k s n L f t a) ⟨k, s, n, some ⟨g, 0, none⟩, L.length, cap, f, t, a⟩

theorem NR.move {w w' : World} {P Q : Nat → Prop} {nd : Nd} {x : NV} (h : NR w P nd x) (hs : w.heap.size ≤ w'.heap.size) (hb : ∀ b, P b → b < w.heap.size → w'.heap[b]? = w.heap[b]?) (hq : ∀ b, P b → b < w.heap.size → Q b) : NR w' Q nd x := by
  induction h with
  | leaf k s n f t a => exact .leaf k s n f t a
  | row k s n L f t a g cap xs h0 hP hz hc hr ih =>
    refine .row k s n L f t a g cap xs h0 (hq g hP hz) (Nat.lt_of_lt_of_le hz hs) (fun i hi j hj => ?_) ih
    rw [World.cell?_of_block (a := ⟨g, i * 7 + j, none⟩) (w := w) (hb g hP hz)]
    exact hc i hi j hj
theorem NR.bel {w w' : World} {P : Nat → Prop} {nd : Nd} {x : NV} (h : NR w P nd x) (hb : Below w.heap.size w w') : NR w' P nd x := h.move hb.size (fun b _ hz => hb.block b hz) (fun _ p _ => p)
theorem NR.ke {rb : Nat} {w w' : World} {P : Nat → Prop} {nd : Nd} {x : NV} (h : NR w P nd x) (hb : Ke rb w w') (hn : ∀ b, P b → b ≠ rb) : NR w' P nd x := h.move hb.size (fun b p hz => hb.block b hz (hn b p)) (fun _ p _ => p)

/-- A new row of nodes, and the node whose parts they are. -/
theorem NR.new {w : World} {P : Nat → Prop} (k : Nat) (s : ByteArray) (n : Nat) (f t a : Nat) (L : List Nd) (xs : List NV) (h0 : L ≠ []) (hl : xs.length = L.length) (tt : TypeId)
    (hr : ∀ i (h : i < L.length), NR w P L[i] (xs[i]'(by omega))) (hP : P w.heap.size) (b : Nat) (hb : b = w.heap.size) (cap : Nat) :
    NR (w.alloc (.cells (flat xs).toArray tt)) P (.mk k s n L f t a) ⟨k, s, n, some ⟨b, 0, none⟩, L.length, cap, f, t, a⟩ := by
  subst hb
  refine .row k s n L f t a w.heap.size cap (fun i => xs.getD i NV.no) h0 hP (by simp) (fun i hi j hj => ?_) (fun i hi => ?_)
  · have : xs.getD i NV.no = xs[i]'(by omega) := by rw [List.getD_eq_getElem?_getD, List.getElem?_eq_getElem (by omega)]; rfl
    rw [this]
    simp only [World.cell?_alloc_new]
    rw [← flat_at xs i j (by omega) hj]
    simp
  · have : xs.getD i NV.no = xs[i]'(by omega) := by rw [List.getD_eq_getElem?_getD, List.getElem?_eq_getElem (by omega)]; rfl
    rw [this]
    exact (hr i hi).bel ((Below.refl _ _).alloc (Nat.le_refl _) _)
end Go.Proofs.YteneoapickhpdaaGreatDoor
namespace Go.Proofs.YteneoapickhpdaaGreatDoor
open Go Go.RowKit

theorem toList_injA {a b : ByteArray} (h : a.toList = b.toList) : a = b := by
  rw [ByteArray.toList_eq, ByteArray.toList_eq] at h
  exact ByteArray.ext (Array.toList_inj.1 h)
/-- What a token is, without its place. -/
abbrev Ky := Nat × List UInt8
def keyT (t : Pu.Tok) : Ky := (t.kind, t.text.toList)
abbrev yOpen : Ky := (5, [40])
abbrev yClose : Ky := (5, [41])
abbrev yComma : Ky := (5, [44])
abbrev yArrow : Ky := (5, [45, 62])
mutual
/-- A part without its places. -/
def er : Nd → Nd
  | .mk k s _ L _ _ _ => .mk k s 0 (erL L) 0 0 0
def erL : List Nd → List Nd
  | [] => []
  | x :: l => er x :: erL l
end
theorem erL_app : ∀ l m, erL (l ++ m) = erL l ++ erL m
  | [], m => rfl
  | x :: l, m => by simp [erL, erL_app l m]
def sVar (s : ByteArray) : Nd := .mk 16 s 0 [] 0 0 0
def sUp (s : ByteArray) (l : List Nd) : Nd := .mk 2 s 0 l 0 0 0
def sPair (x y : Nd) : Nd := .mk 6 kNo 0 [x, y] 0 0 0
def sFn (x y : Nd) : Nd := .mk 17 kNo 0 [x, y] 0 0 0
/-- What is read as a type: 0 a small part, 3 a name with some parts, 1 what may stand ahead of an arrow, 2 a type. -/
inductive Gr : Nat → List Ky → Nd → Prop where
  | var (s : ByteArray) : Gr 0 [(3, s.toList)] (sVar s)
  | up0 (s : ByteArray) : Gr 0 [(2, s.toList)] (sUp s [])
  | par {p : List Ky} {t : Nd} : Gr 2 p t → Gr 0 (yOpen :: (p ++ [yClose])) t
  | pair {p q : List Ky} {t u : Nd} : Gr 2 p t → Gr 2 q u → Gr 0 (yOpen :: (p ++ (yComma :: (q ++ [yClose])))) (sPair t u)
  | up (s : ByteArray) : Gr 3 [(2, s.toList)] (sUp s [])
  | arg {p q : List Ky} {s : ByteArray} {l : List Nd} {u : Nd} : Gr 3 p (sUp s l) → Gr 0 q u → Gr 3 (p ++ q) (sUp s (l ++ [u]))
  | app {p : List Ky} {t : Nd} : Gr 3 p t → Gr 1 p t
  | small {p : List Ky} {t : Nd} : Gr 0 p t → (∀ x r, p = x :: r → x.1 ≠ 2) → Gr 1 p t
  | head {p : List Ky} {t : Nd} : Gr 1 p t → Gr 2 p t
  | arrow {p q : List Ky} {t u : Nd} : Gr 1 p t → Gr 2 q u → Gr 2 (p ++ (yArrow :: q)) (sFn t u)
theorem Gr.ne {v : Nat} {p : List Ky} {t : Nd} (h : Gr v p t) : 1 ≤ p.length := by
  induction h <;> simp_all <;> omega
/-- A small part may stand ahead of an arrow. -/
theorem Gr.up1 {p : List Ky} {t : Nd} (h : Gr 0 p t) : Gr 1 p t := by
  cases h with
  | var s => exact .small (.var s) (fun x r e => by cases e; simp)
  | up0 s => exact .app (.up s)
  | par h => exact .small (.par h) (fun x r e => by cases e; simp)
  | pair h k => exact .small (.pair h k) (fun x r e => by cases e; simp)
/-- These keys stand at a place. -/
def Sits (T : List Pu.Tok) (k : Nat) (p : List Ky) : Prop := ∀ i (h : i < p.length), keyT (tk T (k + i)) = p[i]
theorem Sits.left {T : List Pu.Tok} {k : Nat} {p q : List Ky} (h : Sits T k (p ++ q)) : Sits T k p := fun i hi => by
  have := h i (by simp; omega)
  rwa [List.getElem_append_left hi] at this
theorem Sits.right {T : List Pu.Tok} {k : Nat} {p q : List Ky} (h : Sits T k (p ++ q)) : Sits T (k + p.length) q := fun i hi => by
  have := h (p.length + i) (by simp; omega)
  rw [List.getElem_append_right (by omega)] at this
  simpa [Nat.add_assoc] using this
theorem Sits.hd {T : List Pu.Tok} {k : Nat} {x : Ky} {q : List Ky} (h : Sits T k (x :: q)) : keyT (tk T k) = x := h 0 (by simp)
theorem Sits.tl {T : List Pu.Tok} {k : Nat} {x : Ky} {q : List Ky} (h : Sits T k (x :: q)) : Sits T (k + 1) q := fun i hi => by
  have := h (i + 1) (by simp; omega)
  simpa [Nat.add_assoc, Nat.add_comm 1 i] using this
theorem isT_key {t : Pu.Tok} {l : List UInt8} : isT t ⟨l.toArray⟩ = (keyT t == (5, l)) := by
  rw [isT_mk]
  unfold keyT
  rfl
theorem begins_key (t : Pu.Tok) : beginsB t 1 = (keyT t == yOpen || (keyT t).1 == 3 || (keyT t).1 == 2) := by
  unfold beginsB
  rw [if_pos rfl, isT_key]
  have : (leafK t == 16 || leafK t == 2) = ((keyT t).1 == 3 || (keyT t).1 == 2) := by
    unfold leafK keyT
    simp only
    repeat' split
    all_goals simp_all
  rw [this, Bool.or_assoc]
/-- Nothing goes on here. -/
def Ends1 (T : List Pu.Tok) (k : Nat) : Prop := beginsB (tk T k) 1 = false
def Ends2 (T : List Pu.Tok) (k : Nat) : Prop := beginsB (tk T k) 1 = false ∧ isT (tk T k) kArrow = false
/-- What the reader makes of it. -/
def Reads (v : Nat) (p : List Ky) (t : Nd) : Prop := match v with
  | 0 => ∀ T k n, Sits T k p → p.length ≤ n + 1 → p.length ≤ T.length + 1 → ∃ nd, er nd = t ∧ smallM T (typM T n) (typM T n) 1 k = .ok (nd, k + p.length)
  | 3 => ∀ T k n f, Sits T k p → p.length ≤ n + 1 → p.length ≤ T.length + 1 → p.length ≤ f + 1 → ∃ nd f', er nd = t ∧ f + 1 ≤ f' + p.length ∧ bnd (smallM T (typM T n) (typM T n) 1) (headF T (smallM T (typM T n) (typM T n) 1) 1 f) k = headF T (smallM T (typM T n) (typM T n) 1) 1 f' nd (k + p.length)
  | 1 => ∀ T k n, Sits T k p → p.length ≤ n + 1 → p.length ≤ T.length + 1 → Ends1 T (k + p.length) → ∃ nd, er nd = t ∧ headM T (smallM T (typM T n) (typM T n) 1) 1 k = .ok (nd, k + p.length)
  | _ => ∀ T k n, Sits T k p → p.length ≤ n → p.length ≤ T.length + 1 → Ends2 T (k + p.length) → ∃ nd, er nd = t ∧ typM T n k = .ok (nd, k + p.length)
theorem headF_stopJ {T : List Pu.Tok} {small : M Nd} {f k : Nat} {x : Nd} (h : beginsB (tk T k) 1 = false) : headF T small 1 f x k = .ok (x, k) := by
  cases f with
  | zero => rfl
  | succ f => simp [headF, h]
theorem er_add (x y : Nd) (to : Nat) (s : ByteArray) (l : List Nd) (h : er x = sUp s l) : er (x.add y to) = sUp s (l ++ [er y]) := by
  obtain ⟨k, s', n, L, f, t, a⟩ := x
  simp only [er, sUp, Nd.mk.injEq] at h
  obtain ⟨rfl, rfl, _, rfl, _⟩ := h
  simp [Nd.add, er, erL_app, erL, sUp]
theorem Gr.begins {v : Nat} {p : List Ky} {t : Nd} (h : Gr v p t) : ∃ x r, p = x :: r ∧ (x == yOpen || x.1 == 3 || x.1 == 2) = true := by
  induction h with
  | var s => exact ⟨_, _, rfl, by simp⟩
  | up0 s => exact ⟨_, _, rfl, by simp⟩
  | par _ _ => exact ⟨_, _, rfl, by simp⟩
  | pair _ _ _ _ => exact ⟨_, _, rfl, by simp⟩
  | up s => exact ⟨_, _, rfl, by simp⟩
  | arg _ _ i _ => obtain ⟨x, r, rfl, hx⟩ := i; exact ⟨_, _, rfl, hx⟩
  | app _ i => exact i
  | small _ _ i => exact i
  | head _ i => exact i
  | arrow _ _ i _ => obtain ⟨x, r, rfl, hx⟩ := i; exact ⟨_, _, rfl, hx⟩
theorem Gr.first {p : List Ky} {t : Nd} (h : Gr 3 p t) : ∃ (s : List UInt8) (r : List Ky), p = (2, s) :: r := by
  generalize hv : 3 = v at h
  induction h with
  | up s => exact ⟨_, _, rfl⟩
  | arg _ _ i _ => obtain ⟨s, r, rfl⟩ := i hv; exact ⟨_, _, rfl⟩
  | _ => cases hv
theorem close_ok {T : List Pu.Tok} {k : Nat} (mk : Nat → Nd) (h : keyT (tk T k) = yClose) : closeM T mk k = .ok (mk (k + 1), k + 1) := by
  unfold closeM bnd wantM
  rw [isT_key, h]
  simp
theorem ends_sign {T : List Pu.Tok} {k : Nat} {l : List UInt8} (h : keyT (tk T k) = (5, l)) (h1 : l ≠ [40]) (h2 : l ≠ [45, 62]) : Ends2 T k := by
  constructor
  · rw [begins_key, h]; simp [h1]
  · rw [isT_key, h]; simp [h2]
set_option maxHeartbeats 1000000 in
theorem Gr.reads {v : Nat} {p : List Ky} {t : Nd} (h : Gr v p t) : Reads v p t := by
  induction h with
  | var s =>
    intro T k n hs _ _
    have h0 := hs.hd
    refine ⟨leafN (tk T k), ?_, ?_⟩
    · have e1 : (tk T k).kind = 3 := congrArg Prod.fst h0
      have e2 : (tk T k).text = s := toList_injA (congrArg Prod.snd h0)
      simp [leafN, leafK, e1, e2, er, erL, sVar]
    · unfold smallM
      rw [begins_key, isT_key, h0]
      simp
  | up0 s =>
    intro T k n hs _ _
    have h0 := hs.hd
    refine ⟨leafN (tk T k), ?_, ?_⟩
    · have e1 : (tk T k).kind = 2 := congrArg Prod.fst h0
      have e2 : (tk T k).text = s := toList_injA (congrArg Prod.snd h0)
      simp [leafN, leafK, e1, e2, er, erL, sUp]
    · unfold smallM
      rw [begins_key, isT_key, h0]
      simp
  | @par p t _ ih =>
    intro T k n hs hn hT
    have h0 := hs.hd
    have hp := hs.tl.left
    have hc := hs.tl.right.hd
    simp at hn hT
    obtain ⟨nd, e, hr⟩ := ih T (k + 1) n hp (by omega) (by omega) (ends_sign hc (by simp) (by simp))
    refine ⟨nd, e, ?_⟩
    have c1 : isT (tk T (k + 1 + p.length)) kComma = false := by rw [isT_key, hc]; rfl
    unfold smallM
    rw [begins_key, isT_key, h0]
    simp only [groupM, restM, bnd, hr, c1, close_ok _ hc]
    simp [Nat.add_assoc, Nat.add_comm 1]
  | @pair p q t u _ _ ih ih2 =>
    intro T k n hs hn hT
    have h0 := hs.hd
    have hp := hs.tl.left
    have hm := hs.tl.right.hd
    have hq := hs.tl.right.tl.left
    have hc := hs.tl.right.tl.right.hd
    simp at hn hT
    obtain ⟨nd, e, hr⟩ := ih T (k + 1) n hp (by omega) (by omega) (ends_sign hm (by simp) (by simp))
    obtain ⟨nd2, e2, hr2⟩ := ih2 T (k + 1 + p.length + 1) n hq (by omega) (by omega) (ends_sign hc (by simp) (by simp))
    have c1 : isT (tk T (k + 1 + p.length)) kComma = true := by rw [isT_key, hm]; rfl
    refine ⟨.mk 6 kNo 0 [nd, nd2] (tk T k).frm (lastK T (k + 1 + p.length + 1 + q.length + 1)) (tk T k).frm, by simp [er, erL, e, e2, sPair], ?_⟩
    unfold smallM
    rw [begins_key, isT_key, h0]
    simp only [groupM, restM, bnd, hr, c1, hr2, close_ok _ hc]
    simp
    omega
  | up s =>
    intro T k n f hs _ _ _
    have h0 := hs.hd
    refine ⟨leafN (tk T k), f, ?_, by simp, ?_⟩
    · have e1 : (tk T k).kind = 2 := congrArg Prod.fst h0
      have e2 : (tk T k).text = s := toList_injA (congrArg Prod.snd h0)
      simp [leafN, leafK, e1, e2, er, erL, sUp]
    · unfold bnd smallM
      rw [begins_key, isT_key, h0]
      simp
  | @arg p q s l u h1 h2 ih ih2 =>
    intro T k n f hs hn hT hf
    simp at hn hT hf
    have n2 := h2.ne
    obtain ⟨nd, f', e, hff, hr⟩ := ih T k n f hs.left (by omega) (by omega) (by omega)
    obtain ⟨nd2, e2, hr2⟩ := ih2 T (k + p.length) n hs.right (by omega) (by omega)
    obtain ⟨g, rfl⟩ : ∃ g, f' = g + 1 := ⟨f' - 1, by omega⟩
    obtain ⟨x, r, hx, hb⟩ := h2.begins
    have hs2 := hs.right
    rw [hx] at hs2
    have hb' : beginsB (tk T (k + p.length)) 1 = true := by rw [begins_key, hs2.hd]; exact hb
    refine ⟨nd.add nd2 (lastK T (k + p.length + q.length)), g, ?_, by simp; omega, ?_⟩
    · rw [er_add _ _ _ s l e, e2]
    · rw [hr]
      simp only [headF, hb', if_true, bnd, hr2]
      simp [Nat.add_assoc]
  | @app p t h1 ih =>
    intro T k n hs hn hT hE
    obtain ⟨nd, f', e, _, hr⟩ := ih T k n T.length hs hn hT hT
    obtain ⟨x, r, hx, hb⟩ := h1.begins
    refine ⟨nd, e, ?_⟩
    have h2 : (tk T k).kind = 2 := by
      obtain ⟨s, r', e3⟩ := h1.first
      rw [e3] at hs
      exact congrArg Prod.fst hs.hd
    unfold headM
    rw [h2]
    simp only [beq_self_eq_true, if_true]
    rw [hr]
    exact headF_stopJ hE
  | @small p t h1 hne ih =>
    intro T k n hs hn hT hE
    obtain ⟨nd, e, hr⟩ := ih T k n hs hn hT
    obtain ⟨x, r, hx, hb⟩ := h1.begins
    refine ⟨nd, e, ?_⟩
    have h2 : ((tk T k).kind == 2) = false := by
      rw [hx] at hs
      have h3 : (tk T k).kind = x.1 := congrArg Prod.fst hs.hd
      rw [h3]
      simpa using hne x r hx
    unfold headM
    rw [h2]
    exact hr
  | @head p t h1 ih =>
    intro T k n hs hn hT hE
    have n1 := h1.ne
    obtain ⟨m, rfl⟩ : ∃ m, n = m + 1 := ⟨n - 1, by omega⟩
    obtain ⟨nd, e, hr⟩ := ih T k m hs hn hT hE.1
    refine ⟨nd, e, ?_⟩
    simp only [typM, bnd, hr, arrowM, hE.2]
    simp
  | @arrow p q t u h1 h2 ih ih2 =>
    intro T k n hs hn hT hE
    have n1 := h1.ne
    simp at hn hT hE
    obtain ⟨m, rfl⟩ : ∃ m, n = m + 1 := ⟨n - 1, by omega⟩
    have ha := hs.right.hd
    have hq := hs.right.tl
    have c0 : Ends1 T (k + p.length) := by unfold Ends1; rw [begins_key, ha]; rfl
    have c1 : isT (tk T (k + p.length)) kArrow = true := by rw [isT_key, ha]; rfl
    obtain ⟨nd, e, hr⟩ := ih T k m hs.left (by omega) (by omega) c0
    obtain ⟨nd2, e2, hr2⟩ := ih2 T (k + p.length + 1) m hq (by omega) (by omega) (by simpa [Nat.add_assoc, Nat.add_comm 1] using hE)
    refine ⟨.mk 17 kNo 0 [nd, nd2] (tk T k).frm (lastK T (k + p.length + 1 + q.length)) (tk T k).frm, by simp [er, erL, e, e2, sFn], ?_⟩
    simp only [typM, bnd, hr, arrowM, c1, if_true, hr2]
    simp
    omega
end Go.Proofs.YteneoapickhpdaaGreatDoor
namespace Go.Proofs.YteneoapickhpdaaGreatDoor
open Go Go.RowKit
section
variable {w : World}
abbrev zPt : Array Value := #[.int .i64 0, .int .i64 0, .string ⟨#[]⟩, .string ⟨#[]⟩]
/-- The four stores of a token into the result's box. -/
theorem Bx.set4 {w : World} {b : Nat} {C : Array Value} (h : Bx w b C) (hC : C.size = 4) (v0 v1 v2 v3 : Value) : Bx ((((w.setCell ⟨b, 0, none⟩ v0).setCell ⟨b, 1, none⟩ v1).setCell ⟨b, 2, none⟩ v2).setCell ⟨b, 3, none⟩ v3) b #[v0, v1, v2, v3] := by
  obtain ⟨a0, a1, a2, a3, rfl⟩ : ∃ a0 a1 a2 a3, C = #[a0, a1, a2, a3] := by
    obtain ⟨l⟩ := C
    match l, hC with
    | [a, b, c, d], _ => exact ⟨a, b, c, d, rfl⟩
  exact (((h.setS' 0 v0 #[v0, a1, a2, a3] rfl (by simp)).setS' 1 v1 #[v0, v1, a2, a3] rfl (by simp)).setS' 2 v2 #[v0, v1, v2, a3] rfl (by simp)).setS' 3 v3 #[v0, v1, v2, v3] rfl (by simp)
theorem _root_.Go.RowKit.Below.set4 {B : Nat} {a w : World} (h : Below B a w) {b : Nat} (hb : B ≤ b) (v0 v1 v2 v3 : Value) : Below B a ((((w.setCell ⟨b, 0, none⟩ v0).setCell ⟨b, 1, none⟩ v1).setCell ⟨b, 2, none⟩ v2).setCell ⟨b, 3, none⟩ v3) :=
  (((h.setCell (p := ⟨b, 0, none⟩) hb v0).setCell (p := ⟨b, 1, none⟩) hb v1).setCell (p := ⟨b, 2, none⟩) hb v2).setCell (p := ⟨b, 3, none⟩) hb v3
set_option maxRecDepth 100000 in
set_option maxHeartbeats 1000000 in
theorem lowOrWord_C (h : Laid w) (s : ByteArray) (i : Nat) (hi : i < s.size) (hs : s.size ≤ 1000) :
    Calls Tryz.prog 122 #[.string s, .int .i64 (i : Int)] w fun e w' => e = .returned (ptokV (if Pu.wordB (s.extract i (Pu.endTo s Pu.nameB i)) = true then Pu.mkT s i 5 (Pu.endTo s Pu.nameB i) else Pu.mkT s i 1 (Pu.endTo s Pu.nameB i))) ∧ Below w.heap.size w w' := by
  have hle := Pu.endTo_le (s := s) Pu.nameB (i := i) (by omega)
  have hge := Pu.endTo_ge s Pu.nameB i
  have H := hide (h.bel ((Below.refl w.heap.size w).alloc (Nat.le_refl _) (.cells zPt 108)))
  have B0 := hide (Bx.new w zPt 108)
  have HB := hide ((Below.refl w.heap.size w).alloc (Nat.le_refl _) (.cells zPt 108))
  have h1 : (i : Int) ≤ ((Pu.endTo s Pu.nameB i : Nat) : Int) := by omega
  have h2 : ((Pu.endTo s Pu.nameB i : Nat) : Int) ≤ (s.size : Int) := by omega
  clear h
  cases hw : Pu.wordB (s.extract i (Pu.endTo s Pu.nameB i)) with
  | true =>
    go_enter Tryz.func122, Tryz.ntmps122
    go_wp2_with (first | (go_at_call 119; refine (endName_any s i _ hs (by omega)).mono ?_; rintro e w' ⟨rfl, rfl⟩) | (go_at_call 154; refine (isWord_C (unhide H) _).mono ?_; rintro e w' ⟨rfl, rfl⟩) | (go_at_call 124; refine (cut_C s i _ _ hge hle hs).mono ?_; rintro e w1 ⟨rfl, hb⟩; have B1 := hide ((unhide B0).below hb); have HB1 := hide ((unhide HB).trans (hb.mono (by simp))); obtain ⟨c1, f1, y1⟩ := unhide B1; clear hb))
    have BF := hide ((unhide B1).set4 rfl (.int .i64 (i : Int)) (.int .i64 ((Pu.endTo s Pu.nameB i : Nat) : Int)) (.string (s.extract i (Pu.endTo s Pu.nameB i))) (.string (s.extract i (Pu.endTo s Pu.nameB i))))
    obtain ⟨cF, fF, zF⟩ := unhide BF
    refine bodyPost_ret (v := ptokV (Pu.mkT s i 5 (Pu.endTo s Pu.nameB i))) (by simp [results, Tryz.results122, go_sem, cF, ptokV, Pu.mkT, kindB]) rfl ⟨by simp, (unhide HB1).set4 (Nat.le_refl _) _ _ _ _⟩
  | false =>
    go_enter Tryz.func122, Tryz.ntmps122
    go_wp2_with (first | (go_at_call 119; refine (endName_any s i _ hs (by omega)).mono ?_; rintro e w' ⟨rfl, rfl⟩) | (go_at_call 154; refine (isWord_C (unhide H) _).mono ?_; rintro e w' ⟨rfl, rfl⟩) | (go_at_call 124; refine (cut_C s i _ _ hge hle hs).mono ?_; rintro e w1 ⟨rfl, hb⟩; have B1 := hide ((unhide B0).below hb); have HB1 := hide ((unhide HB).trans (hb.mono (by simp))); obtain ⟨c1, f1, y1⟩ := unhide B1; clear hb))
    have BF := hide ((unhide B1).set4 rfl (.int .i64 (i : Int)) (.int .i64 ((Pu.endTo s Pu.nameB i : Nat) : Int)) (.string ⟨#[108, 111, 119, 32, 110, 97, 109, 101]⟩) (.string (s.extract i (Pu.endTo s Pu.nameB i))))
    obtain ⟨cF, fF, zF⟩ := unhide BF
    refine bodyPost_ret (v := ptokV (Pu.mkT s i 1 (Pu.endTo s Pu.nameB i))) (by simp [results, Tryz.results122, go_sem, cF, ptokV, Pu.mkT, kindB]) rfl ⟨by simp, (unhide HB1).set4 (Nat.le_refl _) _ _ _ _⟩
/-- What reading a token promises: the token, or a panic with its fault where it is none. -/
def TokPost (t : Pu.Tok) (w : World) (e : Ending) (w' : World) : Prop :=
  Below w.heap.size w w' ∧ ((t.kind ≠ 6 ∧ e = .returned (ptokV t)) ∨ (t.kind = 6 ∧ e = .panicked [{ v := .iface 101 (.agg #[.int .i64 2, .int .i64 (t.frm : Int), .int .i64 (t.to : Int)]), recovered := false }]))
set_option maxRecDepth 100000 in
set_option maxHeartbeats 1000000 in
theorem number_C (s : ByteArray) (i : Nat) (hi : i < s.size) (hs : s.size ≤ 1000) :
    Calls Tryz.prog 127 #[.string s, .int .i64 (i : Int)] w (TokPost (if Pu.endTo s Pu.digB i - i ≤ 9 then Pu.mkT s i 4 (Pu.endTo s Pu.digB i) else Pu.mkT s i 6 (Pu.endTo s Pu.digB i)) w) := by
  have hle := Pu.endTo_le (s := s) Pu.digB (i := i) (by omega)
  have hge := Pu.endTo_ge s Pu.digB i
  have B0 := hide (Bx.new w zPt 108)
  have HB := hide ((Below.refl w.heap.size w).alloc (Nat.le_refl _) (.cells zPt 108))
  by_cases hd : Pu.endTo s Pu.digB i - i ≤ 9
  · have h1 : ¬ (9 : Int) < ((Pu.endTo s Pu.digB i : Nat) : Int) - (i : Int) := by omega
    rw [if_pos hd]
    clear hd
    go_enter Tryz.func127, Tryz.ntmps127
    go_wp2_with (first | (go_at_call 119; refine (endDig_any s i _ hs (by omega)).mono ?_; rintro e w' ⟨rfl, rfl⟩) | (go_at_call 124; refine (cut_C s i _ _ hge hle hs).mono ?_; rintro e w1 ⟨rfl, hb⟩; have B1 := hide ((unhide B0).below hb); have HB1 := hide ((unhide HB).trans (hb.mono (by simp))); obtain ⟨c1, f1, y1⟩ := unhide B1; clear hb))
    have BF := hide ((unhide B1).set4 rfl (.int .i64 (i : Int)) (.int .i64 ((Pu.endTo s Pu.digB i : Nat) : Int)) (.string ⟨#[97, 32, 110, 117, 109, 98, 101, 114]⟩) (.string (s.extract i (Pu.endTo s Pu.digB i))))
    obtain ⟨cF, fF, zF⟩ := unhide BF
    exact bodyPost_ret (v := ptokV (Pu.mkT s i 4 (Pu.endTo s Pu.digB i))) (by simp [results, Tryz.results127, go_sem, cF, ptokV, Pu.mkT, kindB]) rfl ⟨(unhide HB1).set4 (Nat.le_refl _) _ _ _ _, Or.inl ⟨by simp [Pu.mkT], rfl⟩⟩
  · have h1 : (9 : Int) < ((Pu.endTo s Pu.digB i : Nat) : Int) - (i : Int) := by omega
    rw [if_neg hd]
    clear hd
    go_enter Tryz.func127, Tryz.ntmps127
    go_wp2_with (first | (go_at_call 119; refine (endDig_any s i _ hs (by omega)).mono ?_; rintro e w' ⟨rfl, rfl⟩) | (go_at_call 155; refine (noToken_C _ _).mono ?_; rintro e w1 ⟨rfl, hb⟩; have HB1 := hide ((unhide HB).trans (hb.mono (by simp))); clear hb))
    exact ⟨rfl, unhide HB1, Or.inr ⟨rfl, rfl⟩⟩
/-- The token that begins with an apostrophe. -/
def varTok (s : ByteArray) (i : Nat) : Pu.Tok :=
  if Pu.lowB (Pu.at_ s (i + 1)) = true then (if Pu.wordB (s.extract (i + 1) (Pu.endTo s Pu.nameB (i + 1))) = true then Pu.mkT s i 6 (Pu.endTo s Pu.nameB (i + 1)) else Pu.mkT s i 3 (Pu.endTo s Pu.nameB (i + 1))) else Pu.mkT s i 6 (i + 1)
set_option maxRecDepth 100000 in
set_option maxHeartbeats 1000000 in
theorem var_C (h : Laid w) (s : ByteArray) (i : Nat) (hi : i < s.size) (hs : s.size ≤ 1000) :
    Calls Tryz.prog 128 #[.string s, .int .i64 (i : Int)] w (TokPost (varTok s i) w) := by
  have B0 := hide (Bx.new w zPt 108)
  have HB := hide ((Below.refl w.heap.size w).alloc (Nat.le_refl _) (.cells zPt 108))
  have H := hide (h.bel (unhide HB))
  clear h
  by_cases hn : i + 1 < s.size
  · have he : (((i : Int) + 1) == (s.size : Int)) = false := by simp; omega
    have hat : Pu.at_ s (i + 1) = s[i + 1].toNat := Pu.at_lt hn
    cases hlo : Pu.lowB s[i + 1].toNat with
    | false =>
      have ht : varTok s i = Pu.mkT s i 6 (i + 1) := by unfold varTok; rw [hat, hlo]; simp
      rw [ht]
      clear ht hat
      go_enter Tryz.func128, Tryz.ntmps128
      go_wp2_with (first | (go_at_call 121; refine (pLow_any _ _).mono ?_; rintro e w' ⟨rfl, rfl⟩) | (go_at_call 155; refine (noToken_C _ _).mono ?_; rintro e w1 ⟨rfl, hb⟩; have HB1 := hide ((unhide HB).trans (hb.mono (by simp))); clear hb))
      exact ⟨rfl, unhide HB1, Or.inr ⟨rfl, rfl⟩⟩
    | true =>
      have hle := Pu.endTo_le (s := s) Pu.nameB (i := i + 1) (by omega)
      have hge := Pu.endTo_ge s Pu.nameB (i + 1)
      have h1 : (i : Int) + 1 ≤ ((Pu.endTo s Pu.nameB (i + 1) : Nat) : Int) := by omega
      have h2 : ((Pu.endTo s Pu.nameB (i + 1) : Nat) : Int) ≤ (s.size : Int) := by omega
      cases hw : Pu.wordB (s.extract (i + 1) (Pu.endTo s Pu.nameB (i + 1))) with
      | true =>
        have ht : varTok s i = Pu.mkT s i 6 (Pu.endTo s Pu.nameB (i + 1)) := by unfold varTok; rw [hat, hlo, hw]; simp
        rw [ht]
        clear ht hat
        go_enter Tryz.func128, Tryz.ntmps128
        go_wp2_with (first | (go_at_call 121; refine (pLow_any _ _).mono ?_; rintro e w' ⟨rfl, rfl⟩) | (go_at_call 119; refine (endName_any s (i + 1) _ hs (by omega)).mono ?_; rintro e w' ⟨rfl, rfl⟩) | (go_at_call 154; refine (isWord_C (unhide H) _).mono ?_; rintro e w' ⟨rfl, rfl⟩) | (go_at_call 155; refine (noToken_C _ _).mono ?_; rintro e w1 ⟨rfl, hb⟩; have HB1 := hide ((unhide HB).trans (hb.mono (by simp))); clear hb))
        exact ⟨rfl, unhide HB1, Or.inr ⟨rfl, rfl⟩⟩
      | false =>
        have ht : varTok s i = Pu.mkT s i 3 (Pu.endTo s Pu.nameB (i + 1)) := by unfold varTok; rw [hat, hlo, hw]; simp
        rw [ht]
        clear ht hat
        go_enter Tryz.func128, Tryz.ntmps128
        go_wp2_with (first | (go_at_call 121; refine (pLow_any _ _).mono ?_; rintro e w' ⟨rfl, rfl⟩) | (go_at_call 119; refine (endName_any s (i + 1) _ hs (by omega)).mono ?_; rintro e w' ⟨rfl, rfl⟩) | (go_at_call 154; refine (isWord_C (unhide H) _).mono ?_; rintro e w' ⟨rfl, rfl⟩) | (go_at_call 124; refine (cut_C s i _ _ (by omega) hle hs).mono ?_; rintro e w1 ⟨rfl, hb⟩; have B1 := hide ((unhide B0).below hb); have HB1 := hide ((unhide HB).trans (hb.mono (by simp))); obtain ⟨c1, f1, y1⟩ := unhide B1; clear hb))
        have BF := hide ((unhide B1).set4 rfl (.int .i64 (i : Int)) (.int .i64 ((Pu.endTo s Pu.nameB (i + 1) : Nat) : Int)) (.string ⟨#[97, 32, 118, 97, 114, 105, 97, 98, 108, 101]⟩) (.string (s.extract i (Pu.endTo s Pu.nameB (i + 1)))))
        obtain ⟨cF, fF, zF⟩ := unhide BF
        exact bodyPost_ret (v := ptokV (Pu.mkT s i 3 (Pu.endTo s Pu.nameB (i + 1)))) (by simp [results, Tryz.results128, go_sem, cF, ptokV, Pu.mkT, kindB]) rfl ⟨(unhide HB1).set4 (Nat.le_refl _) _ _ _ _, Or.inl ⟨by simp [Pu.mkT], rfl⟩⟩
  · have he : (((i : Int) + 1) == (s.size : Int)) = true := by simp; omega
    have ht : varTok s i = Pu.mkT s i 6 (i + 1) := by
      unfold varTok
      rw [Pu.at_ge (by omega)]
      rfl
    rw [ht]
    clear ht
    go_enter Tryz.func128, Tryz.ntmps128
    go_wp2_with (first | (go_at_call 155; refine (noToken_C _ _).mono ?_; rintro e w1 ⟨rfl, hb⟩; have HB1 := hide ((unhide HB).trans (hb.mono (by simp))); clear hb))
    exact ⟨rfl, unhide HB1, Or.inr ⟨rfl, rfl⟩⟩
end
end Go.Proofs.YteneoapickhpdaaGreatDoor
namespace Go.Proofs.YteneoapickhpdaaGreatDoor
open Go Go.RowKit
def preB (s p : ByteArray) : Bool := decide (p.size ≤ s.size) && ((s.extract 0 p.size).toList == p.toList)
/-- Whether the k-th sign begins at i. -/
def hit (s : ByteArray) (i k : Nat) : Bool :=
  if k = 0 then (Pu.at_ s i == 45 && Pu.at_ s (i + 1) == 62) else Pu.at_ s i == ((signAt k)[0]!).toNat
def sgnTok (s : ByteArray) (i : Nat) : Pu.Tok :=
  if Pu.at_ s i = 45 ∧ Pu.at_ s (i + 1) = 62 then Pu.mkT s i 5 (i + 2)
  else if Pu.signB (Pu.at_ s i) = true then Pu.mkT s i 5 (i + 1) else Pu.mkT s i 6 (i + 1)
theorem toList_injP {a b : ByteArray} (h : (a.toList == b.toList) = true) : a = b := by
  rw [beq_iff_eq, ByteArray.toList_eq, ByteArray.toList_eq] at h
  exact ByteArray.ext (Array.toList_inj.1 h)
theorem ext1 {s : ByteArray} {i : Nat} (h : i < s.size) : s.extract i (i + 1) = ⟨#[s[i]]⟩ := by
  apply ByteArray.ext
  apply Array.ext
  · simp; omega
  · intro j h1 h2
    have : j = 0 := by simp at h2; omega
    subst this
    simp [ByteArray.data_extract]; rfl
theorem ext2 {s : ByteArray} {i : Nat} (h : i + 1 < s.size) : s.extract i (i + 2) = ⟨#[s[i], s[i + 1]]⟩ := by
  apply ByteArray.ext
  apply Array.ext
  · simp; omega
  · intro j h1 h2
    have : j = 0 ∨ j = 1 := by simp at h2; omega
    rcases this with rfl | rfl
    · simp [ByteArray.data_extract]; rfl
    · simp [ByteArray.data_extract]; rfl
theorem pre1 {s : ByteArray} {i : Nat} (hi : i < s.size) (c : UInt8) : preB (s.extract i s.size) ⟨#[c]⟩ = (Pu.at_ s i == c.toNat) := by
  have hz : (⟨#[c]⟩ : ByteArray).size = 1 := rfl
  unfold preB
  rw [hz, ByteArray.extract_extract, show min (i + 1) s.size = i + 1 by omega, Nat.add_zero, ext1 hi, Pu.at_lt hi, ByteArray.size_extract]
  rw [decide_eq_true (by omega), Bool.true_and, Bool.eq_iff_iff]
  constructor
  · intro h
    have := congrArg (fun b : ByteArray => b.data) (toList_injP h)
    simp at this
    simp [this]
  · intro h
    rw [beq_iff_eq] at h
    rw [UInt8.toNat_inj.1 h]
    simp
theorem pre2 {s : ByteArray} {i : Nat} (hi : i < s.size) (c d : UInt8) : preB (s.extract i s.size) ⟨#[c, d]⟩ = (Pu.at_ s i == c.toNat && Pu.at_ s (i + 1) == d.toNat) := by
  have hz : (⟨#[c, d]⟩ : ByteArray).size = 2 := rfl
  unfold preB
  rw [hz]
  by_cases hn : i + 1 < s.size
  · rw [ByteArray.extract_extract, show min (i + 2) s.size = i + 2 by omega, Nat.add_zero, ext2 hn, Pu.at_lt hi, Pu.at_lt hn, ByteArray.size_extract]
    rw [decide_eq_true (by omega), Bool.true_and, Bool.eq_iff_iff]
    constructor
    · intro h
      have := congrArg (fun b : ByteArray => b.data) (toList_injP h)
      simp at this
      simp [this]
    · intro h
      rw [Bool.and_eq_true, beq_iff_eq, beq_iff_eq] at h
      rw [UInt8.toNat_inj.1 h.1, UInt8.toNat_inj.1 h.2]
      simp
  · rw [ByteArray.size_extract, decide_eq_false (by omega), Pu.at_ge (s := s) (i := i + 1) (by omega)]
    have : (256 == d.toNat) = false := by have := UInt8.toNat_lt d; simp; omega
    rw [this]; simp
theorem pre_hit {s : ByteArray} {i : Nat} (hi : i < s.size) : ∀ k, k < 13 → preB (s.extract i s.size) (signAt k) = hit s i k
  | 0, _ => pre2 hi 45 62
  | 1, _ => pre1 hi _
  | 2, _ => pre1 hi _
  | 3, _ => pre1 hi _
  | 4, _ => pre1 hi _
  | 5, _ => pre1 hi _
  | 6, _ => pre1 hi _
  | 7, _ => pre1 hi _
  | 8, _ => pre1 hi _
  | 9, _ => pre1 hi _
  | 10, _ => pre1 hi _
  | 11, _ => pre1 hi _
  | 12, _ => pre1 hi _
  | k + 13, h => absurd h (by omega)
theorem sgn_at {s : ByteArray} {i : Nat} : ∀ k, 0 < k → k < 13 → (∀ j, j < k → hit s i j = false) → hit s i k = true → sgnTok s i = Pu.mkT s i 5 (i + 1) := by
  intro k h0 hk hno hh
  unfold sgnTok
  have n0 := hno 0 h0
  rw [if_neg (by intro q; simp [hit, q.1, q.2] at n0)]
  have : Pu.signB (Pu.at_ s i) = true := by
    have hc : k = 1 ∨ k = 2 ∨ k = 3 ∨ k = 4 ∨ k = 5 ∨ k = 6 ∨ k = 7 ∨ k = 8 ∨ k = 9 ∨ k = 10 ∨ k = 11 ∨ k = 12 := by omega
    unfold hit at hh
    rw [if_neg (by omega), beq_iff_eq] at hh
    rw [hh]
    rcases hc with rfl | rfl | rfl | rfl | rfl | rfl | rfl | rfl | rfl | rfl | rfl | rfl <;> decide
  rw [if_pos this]
theorem sgn_0 {s : ByteArray} {i : Nat} (h : hit s i 0 = true) : sgnTok s i = Pu.mkT s i 5 (i + 2) := by
  unfold sgnTok
  rw [if_pos (by simpa [hit] using h)]
theorem sgn_no {s : ByteArray} {i : Nat} (h : ∀ j, j < 13 → hit s i j = false) : sgnTok s i = Pu.mkT s i 6 (i + 1) := by
  unfold sgnTok
  have n0 := h 0 (by omega)
  rw [if_neg (by intro q; simp [hit, q.1, q.2] at n0)]
  have : Pu.signB (Pu.at_ s i) = false := by
    unfold Pu.signB
    rw [List.any_eq_false]
    intro x hx
    simp only [List.mem_cons, List.not_mem_nil, or_false] at hx
    intro q
    rw [beq_iff_eq] at q
    have H : ∀ k, 0 < k → k < 13 → ((signAt k)[0]!).toNat = x → False := fun k h0 hk e => by
      have := h k hk
      unfold hit at this
      rw [if_neg (by omega), e, q] at this
      simp at this
    rcases hx with rfl | rfl | rfl | rfl | rfl | rfl | rfl | rfl | rfl | rfl | rfl | rfl
    · exact H 1 (by omega) (by omega) rfl
    · exact H 2 (by omega) (by omega) rfl
    · exact H 3 (by omega) (by omega) rfl
    · exact H 4 (by omega) (by omega) rfl
    · exact H 5 (by omega) (by omega) rfl
    · exact H 6 (by omega) (by omega) rfl
    · exact H 7 (by omega) (by omega) rfl
    · exact H 8 (by omega) (by omega) rfl
    · exact H 9 (by omega) (by omega) rfl
    · exact H 10 (by omega) (by omega) rfl
    · exact H 11 (by omega) (by omega) rfl
    · exact H 12 (by omega) (by omega) rfl
  rw [this]
  rfl
/-- Where a sign begins, its text is the source's. -/
theorem hit_text {s : ByteArray} {i k : Nat} (hi : i < s.size) (hk : k < 13) (h : hit s i k = true) : i + (signAt k).size ≤ s.size ∧ s.extract i (i + (signAt k).size) = signAt k := by
  rw [← pre_hit hi k hk] at h
  unfold preB at h
  rw [Bool.and_eq_true, decide_eq_true_iff, ByteArray.size_extract] at h
  have hz : i + (signAt k).size ≤ s.size := by omega
  refine ⟨hz, ?_⟩
  have := toList_injP h.2
  rwa [ByteArray.extract_extract, Nat.add_zero, Nat.min_eq_left hz] at this
section
variable {w : World}
set_option maxRecDepth 100000 in
set_option maxHeartbeats 400000 in
theorem lite_C (s p : ByteArray) (hs : s.size ≤ 1000) (hp : p.size ≤ 2) : Calls Tryz.prog 169 #[.string s, .string p] w fun e w' => e = .returned (.bool (preB s p)) ∧ w' = w := by
  by_cases h : p.size ≤ s.size
  · have h1 : (p.size : Int) ≤ (s.size : Int) := by omega
    have hz : decide (p.size ≤ s.size) = true := by simp [h]
    go_enter Tryz.func169, Tryz.ntmps169
    go_wp2_with fail
    go_ret
    exact ⟨retBool (by simp [preB, hz]), rfl⟩
  · have h1 : ¬ (p.size : Int) ≤ (s.size : Int) := by omega
    have hz : decide (p.size ≤ s.size) = false := by simp; omega
    go_enter Tryz.func169, Tryz.ntmps169
    go_wp2_with fail
    go_ret
    exact ⟨retBool (by simp [preB, hz]), rfl⟩
set_option maxRecDepth 100000 in
set_option maxHeartbeats 400000 in
theorem prefix_C (s p : ByteArray) (hs : s.size ≤ 1000) (hp : p.size ≤ 2) : Calls Tryz.prog 156 #[.string s, .string p] w fun e w' => e = .returned (.bool (preB s p)) ∧ w' = w := by
  go_enter Tryz.func156, Tryz.ntmps156
  go_wp2_with (go_at_call 169; refine (lite_C s p hs hp).mono ?_; rintro e w' ⟨rfl, rfl⟩)
  go_ret
  exact ⟨retBool rfl, rfl⟩
theorem hasSign_C (s : ByteArray) (i k : Nat) (hi : i < s.size) (hs : s.size ≤ 1000) (hk : k < 13) (hz : (signAt k).size ≤ 2) : Calls Tryz.prog 156 #[.string (s.extract i s.size), .string (signAt k)] w fun e w' => e = .returned (.bool (hit s i k)) ∧ w' = w := by
  rw [← pre_hit hi k hk]
  exact prefix_C _ _ (by rw [ByteArray.size_extract]; omega) hz
set_option maxRecDepth 100000 in
set_option maxHeartbeats 2000000 in
theorem sign_C (h : Laid w) (s : ByteArray) (i : Nat) (hi : i < s.size) (hs : s.size ≤ 1000) :
    Calls Tryz.prog 129 #[.string s, .int .i64 (i : Int)] w (TokPost (sgnTok s i) w) := by
  have B0 := hide (Bx.new w zPt 108)
  have HB := hide ((Below.refl w.heap.size w).alloc (Nat.le_refl _) (.cells zPt 108))
  have H := h.bel (unhide HB)
  have hi1 : (i : Int) ≤ (s.size : Int) := by omega
  have g0 := H.signs 0 (by omega)
  have g1 := H.signs 1 (by omega)
  have g2 := H.signs 2 (by omega)
  have g3 := H.signs 3 (by omega)
  have g4 := H.signs 4 (by omega)
  have g5 := H.signs 5 (by omega)
  have g6 := H.signs 6 (by omega)
  have g7 := H.signs 7 (by omega)
  have g8 := H.signs 8 (by omega)
  have g9 := H.signs 9 (by omega)
  have g10 := H.signs 10 (by omega)
  have g11 := H.signs 11 (by omega)
  have g12 := H.signs 12 (by omega)
  clear h H
  go_enter Tryz.func129, Tryz.ntmps129
  go_wp2_with fail
  go_loop [8] (fun v => ∃ j : Nat, j ≤ 13 ∧ v = .int .i64 (j : Int) ∧ Hid (∀ m, m < j → hit s i m = false)) (fun v => 13 - (intOf v).toNat)
  case atStart => exact ⟨0, by omega, rfl, fun i h => by omega⟩
  case round =>
    obtain ⟨j, hj, rfl, hno⟩ := hrel
    by_cases hlt : j < 13
    · have hcase : j = 0 ∨ j = 1 ∨ j = 2 ∨ j = 3 ∨ j = 4 ∨ j = 5 ∨ j = 6 ∨ j = 7 ∨ j = 8 ∨ j = 9 ∨ j = 10 ∨ j = 11 ∨ j = 12 := by omega
      rcases hcase with rfl | rfl | rfl | rfl | rfl | rfl | rfl | rfl | rfl | rfl | rfl | rfl | rfl
      · have hix := idx13_0 (signAt 0) (signAt 1) (signAt 2) (signAt 3) (signAt 4) (signAt 5) (signAt 6) (signAt 7) (signAt 8) (signAt 9) (signAt 10) (signAt 11) (signAt 12)
        have hz : (signAt 0).size = 2 := rfl
        cases he : hit s i 0 with
        | true =>
          have ht := hide (sgn_0 he)
          have hx := hit_text hi (by omega) he
          rw [hz] at hx
          have hle := hx.1
          have hxe := hide hx.2
          clear hx
          go_wp2_with (first | (go_at_call 156; refine (hasSign_C s i 0 hi hs (by omega) (by omega)).mono ?_; rintro e w' ⟨rfl, rfl⟩) | (go_at_call 124; refine (cut_C s i (i + 2) _ (by omega) hle hs).mono ?_; rintro e w1 ⟨rfl, hb⟩; have B1 := hide ((unhide B0).below hb); have HB1 := hide ((unhide HB).trans (hb.mono (by simp))); obtain ⟨c1, f1, y1⟩ := unhide B1; clear hb))
          have BF := hide ((unhide B1).set4 rfl (.int .i64 (i : Int)) (.int .i64 ((i : Int) + 2)) (.string (signAt 0)) (.string (s.extract i (i + 2))))
          obtain ⟨cF, fF, zF⟩ := unhide BF
          rw [unhide ht]
          refine bodyPost_ret (v := ptokV (Pu.mkT s i 5 (i + 2))) ?_ rfl ⟨(unhide HB1).set4 (Nat.le_refl _) _ _ _ _, Or.inl ⟨by simp [Pu.mkT], rfl⟩⟩
          have hk : kindB (Pu.mkT s i 5 (i + 2)) = signAt 0 := unhide hxe
          simp only [ptokV, hk]
          simp [results, Tryz.results129, go_sem, cF, Pu.mkT]
        | false =>
          have hn2 : Hid (∀ m, m < 1 → hit s i m = false) := fun m hm => by
            by_cases e : m = 0
            · subst e; exact he
            · exact unhide hno m (by omega)
          go_wp2_with (go_at_call 156; refine (hasSign_C s i 0 hi hs (by omega) (by omega)).mono ?_; rintro e w' ⟨rfl, rfl⟩)
          go_round
          case rel => exact ⟨1, by omega, by go_num, hn2⟩
          case measure => simp [intOf]
      · have hix := idx13_1 (signAt 0) (signAt 1) (signAt 2) (signAt 3) (signAt 4) (signAt 5) (signAt 6) (signAt 7) (signAt 8) (signAt 9) (signAt 10) (signAt 11) (signAt 12)
        have hz : (signAt 1).size = 1 := rfl
        cases he : hit s i 1 with
        | true =>
          have ht := hide (sgn_at 1 (by omega) (by omega) (unhide hno) he)
          have hx := hit_text hi (by omega) he
          rw [hz] at hx
          have hle := hx.1
          have hxe := hide hx.2
          clear hx
          go_wp2_with (first | (go_at_call 156; refine (hasSign_C s i 1 hi hs (by omega) (by omega)).mono ?_; rintro e w' ⟨rfl, rfl⟩) | (go_at_call 124; refine (cut_C s i (i + 1) _ (by omega) hle hs).mono ?_; rintro e w1 ⟨rfl, hb⟩; have B1 := hide ((unhide B0).below hb); have HB1 := hide ((unhide HB).trans (hb.mono (by simp))); obtain ⟨c1, f1, y1⟩ := unhide B1; clear hb))
          have BF := hide ((unhide B1).set4 rfl (.int .i64 (i : Int)) (.int .i64 ((i : Int) + 1)) (.string (signAt 1)) (.string (s.extract i (i + 1))))
          obtain ⟨cF, fF, zF⟩ := unhide BF
          rw [unhide ht]
          refine bodyPost_ret (v := ptokV (Pu.mkT s i 5 (i + 1))) ?_ rfl ⟨(unhide HB1).set4 (Nat.le_refl _) _ _ _ _, Or.inl ⟨by simp [Pu.mkT], rfl⟩⟩
          have hk : kindB (Pu.mkT s i 5 (i + 1)) = signAt 1 := unhide hxe
          simp only [ptokV, hk]
          simp [results, Tryz.results129, go_sem, cF, Pu.mkT]
        | false =>
          have hn2 : Hid (∀ m, m < 2 → hit s i m = false) := fun m hm => by
            by_cases e : m = 1
            · subst e; exact he
            · exact unhide hno m (by omega)
          go_wp2_with (go_at_call 156; refine (hasSign_C s i 1 hi hs (by omega) (by omega)).mono ?_; rintro e w' ⟨rfl, rfl⟩)
          go_round
          case rel => exact ⟨2, by omega, by go_num, hn2⟩
          case measure => simp [intOf]
      · have hix := idx13_2 (signAt 0) (signAt 1) (signAt 2) (signAt 3) (signAt 4) (signAt 5) (signAt 6) (signAt 7) (signAt 8) (signAt 9) (signAt 10) (signAt 11) (signAt 12)
        have hz : (signAt 2).size = 1 := rfl
        cases he : hit s i 2 with
        | true =>
          have ht := hide (sgn_at 2 (by omega) (by omega) (unhide hno) he)
          have hx := hit_text hi (by omega) he
          rw [hz] at hx
          have hle := hx.1
          have hxe := hide hx.2
          clear hx
          go_wp2_with (first | (go_at_call 156; refine (hasSign_C s i 2 hi hs (by omega) (by omega)).mono ?_; rintro e w' ⟨rfl, rfl⟩) | (go_at_call 124; refine (cut_C s i (i + 1) _ (by omega) hle hs).mono ?_; rintro e w1 ⟨rfl, hb⟩; have B1 := hide ((unhide B0).below hb); have HB1 := hide ((unhide HB).trans (hb.mono (by simp))); obtain ⟨c1, f1, y1⟩ := unhide B1; clear hb))
          have BF := hide ((unhide B1).set4 rfl (.int .i64 (i : Int)) (.int .i64 ((i : Int) + 1)) (.string (signAt 2)) (.string (s.extract i (i + 1))))
          obtain ⟨cF, fF, zF⟩ := unhide BF
          rw [unhide ht]
          refine bodyPost_ret (v := ptokV (Pu.mkT s i 5 (i + 1))) ?_ rfl ⟨(unhide HB1).set4 (Nat.le_refl _) _ _ _ _, Or.inl ⟨by simp [Pu.mkT], rfl⟩⟩
          have hk : kindB (Pu.mkT s i 5 (i + 1)) = signAt 2 := unhide hxe
          simp only [ptokV, hk]
          simp [results, Tryz.results129, go_sem, cF, Pu.mkT]
        | false =>
          have hn2 : Hid (∀ m, m < 3 → hit s i m = false) := fun m hm => by
            by_cases e : m = 2
            · subst e; exact he
            · exact unhide hno m (by omega)
          go_wp2_with (go_at_call 156; refine (hasSign_C s i 2 hi hs (by omega) (by omega)).mono ?_; rintro e w' ⟨rfl, rfl⟩)
          go_round
          case rel => exact ⟨3, by omega, by go_num, hn2⟩
          case measure => simp [intOf]
      · have hix := idx13_3 (signAt 0) (signAt 1) (signAt 2) (signAt 3) (signAt 4) (signAt 5) (signAt 6) (signAt 7) (signAt 8) (signAt 9) (signAt 10) (signAt 11) (signAt 12)
        have hz : (signAt 3).size = 1 := rfl
        cases he : hit s i 3 with
        | true =>
          have ht := hide (sgn_at 3 (by omega) (by omega) (unhide hno) he)
          have hx := hit_text hi (by omega) he
          rw [hz] at hx
          have hle := hx.1
          have hxe := hide hx.2
          clear hx
          go_wp2_with (first | (go_at_call 156; refine (hasSign_C s i 3 hi hs (by omega) (by omega)).mono ?_; rintro e w' ⟨rfl, rfl⟩) | (go_at_call 124; refine (cut_C s i (i + 1) _ (by omega) hle hs).mono ?_; rintro e w1 ⟨rfl, hb⟩; have B1 := hide ((unhide B0).below hb); have HB1 := hide ((unhide HB).trans (hb.mono (by simp))); obtain ⟨c1, f1, y1⟩ := unhide B1; clear hb))
          have BF := hide ((unhide B1).set4 rfl (.int .i64 (i : Int)) (.int .i64 ((i : Int) + 1)) (.string (signAt 3)) (.string (s.extract i (i + 1))))
          obtain ⟨cF, fF, zF⟩ := unhide BF
          rw [unhide ht]
          refine bodyPost_ret (v := ptokV (Pu.mkT s i 5 (i + 1))) ?_ rfl ⟨(unhide HB1).set4 (Nat.le_refl _) _ _ _ _, Or.inl ⟨by simp [Pu.mkT], rfl⟩⟩
          have hk : kindB (Pu.mkT s i 5 (i + 1)) = signAt 3 := unhide hxe
          simp only [ptokV, hk]
          simp [results, Tryz.results129, go_sem, cF, Pu.mkT]
        | false =>
          have hn2 : Hid (∀ m, m < 4 → hit s i m = false) := fun m hm => by
            by_cases e : m = 3
            · subst e; exact he
            · exact unhide hno m (by omega)
          go_wp2_with (go_at_call 156; refine (hasSign_C s i 3 hi hs (by omega) (by omega)).mono ?_; rintro e w' ⟨rfl, rfl⟩)
          go_round
          case rel => exact ⟨4, by omega, by go_num, hn2⟩
          case measure => simp [intOf]
      · have hix := idx13_4 (signAt 0) (signAt 1) (signAt 2) (signAt 3) (signAt 4) (signAt 5) (signAt 6) (signAt 7) (signAt 8) (signAt 9) (signAt 10) (signAt 11) (signAt 12)
        have hz : (signAt 4).size = 1 := rfl
        cases he : hit s i 4 with
        | true =>
          have ht := hide (sgn_at 4 (by omega) (by omega) (unhide hno) he)
          have hx := hit_text hi (by omega) he
          rw [hz] at hx
          have hle := hx.1
          have hxe := hide hx.2
          clear hx
          go_wp2_with (first | (go_at_call 156; refine (hasSign_C s i 4 hi hs (by omega) (by omega)).mono ?_; rintro e w' ⟨rfl, rfl⟩) | (go_at_call 124; refine (cut_C s i (i + 1) _ (by omega) hle hs).mono ?_; rintro e w1 ⟨rfl, hb⟩; have B1 := hide ((unhide B0).below hb); have HB1 := hide ((unhide HB).trans (hb.mono (by simp))); obtain ⟨c1, f1, y1⟩ := unhide B1; clear hb))
          have BF := hide ((unhide B1).set4 rfl (.int .i64 (i : Int)) (.int .i64 ((i : Int) + 1)) (.string (signAt 4)) (.string (s.extract i (i + 1))))
          obtain ⟨cF, fF, zF⟩ := unhide BF
          rw [unhide ht]
          refine bodyPost_ret (v := ptokV (Pu.mkT s i 5 (i + 1))) ?_ rfl ⟨(unhide HB1).set4 (Nat.le_refl _) _ _ _ _, Or.inl ⟨by simp [Pu.mkT], rfl⟩⟩
          have hk : kindB (Pu.mkT s i 5 (i + 1)) = signAt 4 := unhide hxe
          simp only [ptokV, hk]
          simp [results, Tryz.results129, go_sem, cF, Pu.mkT]
        | false =>
          have hn2 : Hid (∀ m, m < 5 → hit s i m = false) := fun m hm => by
            by_cases e : m = 4
            · subst e; exact he
            · exact unhide hno m (by omega)
          go_wp2_with (go_at_call 156; refine (hasSign_C s i 4 hi hs (by omega) (by omega)).mono ?_; rintro e w' ⟨rfl, rfl⟩)
          go_round
          case rel => exact ⟨5, by omega, by go_num, hn2⟩
          case measure => simp [intOf]
      · have hix := idx13_5 (signAt 0) (signAt 1) (signAt 2) (signAt 3) (signAt 4) (signAt 5) (signAt 6) (signAt 7) (signAt 8) (signAt 9) (signAt 10) (signAt 11) (signAt 12)
        have hz : (signAt 5).size = 1 := rfl
        cases he : hit s i 5 with
        | true =>
          have ht := hide (sgn_at 5 (by omega) (by omega) (unhide hno) he)
          have hx := hit_text hi (by omega) he
          rw [hz] at hx
          have hle := hx.1
          have hxe := hide hx.2
          clear hx
          go_wp2_with (first | (go_at_call 156; refine (hasSign_C s i 5 hi hs (by omega) (by omega)).mono ?_; rintro e w' ⟨rfl, rfl⟩) | (go_at_call 124; refine (cut_C s i (i + 1) _ (by omega) hle hs).mono ?_; rintro e w1 ⟨rfl, hb⟩; have B1 := hide ((unhide B0).below hb); have HB1 := hide ((unhide HB).trans (hb.mono (by simp))); obtain ⟨c1, f1, y1⟩ := unhide B1; clear hb))
          have BF := hide ((unhide B1).set4 rfl (.int .i64 (i : Int)) (.int .i64 ((i : Int) + 1)) (.string (signAt 5)) (.string (s.extract i (i + 1))))
          obtain ⟨cF, fF, zF⟩ := unhide BF
          rw [unhide ht]
          refine bodyPost_ret (v := ptokV (Pu.mkT s i 5 (i + 1))) ?_ rfl ⟨(unhide HB1).set4 (Nat.le_refl _) _ _ _ _, Or.inl ⟨by simp [Pu.mkT], rfl⟩⟩
          have hk : kindB (Pu.mkT s i 5 (i + 1)) = signAt 5 := unhide hxe
          simp only [ptokV, hk]
          simp [results, Tryz.results129, go_sem, cF, Pu.mkT]
        | false =>
          have hn2 : Hid (∀ m, m < 6 → hit s i m = false) := fun m hm => by
            by_cases e : m = 5
            · subst e; exact he
            · exact unhide hno m (by omega)
          go_wp2_with (go_at_call 156; refine (hasSign_C s i 5 hi hs (by omega) (by omega)).mono ?_; rintro e w' ⟨rfl, rfl⟩)
          go_round
          case rel => exact ⟨6, by omega, by go_num, hn2⟩
          case measure => simp [intOf]
      · have hix := idx13_6 (signAt 0) (signAt 1) (signAt 2) (signAt 3) (signAt 4) (signAt 5) (signAt 6) (signAt 7) (signAt 8) (signAt 9) (signAt 10) (signAt 11) (signAt 12)
        have hz : (signAt 6).size = 1 := rfl
        cases he : hit s i 6 with
        | true =>
          have ht := hide (sgn_at 6 (by omega) (by omega) (unhide hno) he)
          have hx := hit_text hi (by omega) he
          rw [hz] at hx
          have hle := hx.1
          have hxe := hide hx.2
          clear hx
          go_wp2_with (first | (go_at_call 156; refine (hasSign_C s i 6 hi hs (by omega) (by omega)).mono ?_; rintro e w' ⟨rfl, rfl⟩) | (go_at_call 124; refine (cut_C s i (i + 1) _ (by omega) hle hs).mono ?_; rintro e w1 ⟨rfl, hb⟩; have B1 := hide ((unhide B0).below hb); have HB1 := hide ((unhide HB).trans (hb.mono (by simp))); obtain ⟨c1, f1, y1⟩ := unhide B1; clear hb))
          have BF := hide ((unhide B1).set4 rfl (.int .i64 (i : Int)) (.int .i64 ((i : Int) + 1)) (.string (signAt 6)) (.string (s.extract i (i + 1))))
          obtain ⟨cF, fF, zF⟩ := unhide BF
          rw [unhide ht]
          refine bodyPost_ret (v := ptokV (Pu.mkT s i 5 (i + 1))) ?_ rfl ⟨(unhide HB1).set4 (Nat.le_refl _) _ _ _ _, Or.inl ⟨by simp [Pu.mkT], rfl⟩⟩
          have hk : kindB (Pu.mkT s i 5 (i + 1)) = signAt 6 := unhide hxe
          simp only [ptokV, hk]
          simp [results, Tryz.results129, go_sem, cF, Pu.mkT]
        | false =>
          have hn2 : Hid (∀ m, m < 7 → hit s i m = false) := fun m hm => by
            by_cases e : m = 6
            · subst e; exact he
            · exact unhide hno m (by omega)
          go_wp2_with (go_at_call 156; refine (hasSign_C s i 6 hi hs (by omega) (by omega)).mono ?_; rintro e w' ⟨rfl, rfl⟩)
          go_round
          case rel => exact ⟨7, by omega, by go_num, hn2⟩
          case measure => simp [intOf]
      · have hix := idx13_7 (signAt 0) (signAt 1) (signAt 2) (signAt 3) (signAt 4) (signAt 5) (signAt 6) (signAt 7) (signAt 8) (signAt 9) (signAt 10) (signAt 11) (signAt 12)
        have hz : (signAt 7).size = 1 := rfl
        cases he : hit s i 7 with
        | true =>
          have ht := hide (sgn_at 7 (by omega) (by omega) (unhide hno) he)
          have hx := hit_text hi (by omega) he
          rw [hz] at hx
          have hle := hx.1
          have hxe := hide hx.2
          clear hx
          go_wp2_with (first | (go_at_call 156; refine (hasSign_C s i 7 hi hs (by omega) (by omega)).mono ?_; rintro e w' ⟨rfl, rfl⟩) | (go_at_call 124; refine (cut_C s i (i + 1) _ (by omega) hle hs).mono ?_; rintro e w1 ⟨rfl, hb⟩; have B1 := hide ((unhide B0).below hb); have HB1 := hide ((unhide HB).trans (hb.mono (by simp))); obtain ⟨c1, f1, y1⟩ := unhide B1; clear hb))
          have BF := hide ((unhide B1).set4 rfl (.int .i64 (i : Int)) (.int .i64 ((i : Int) + 1)) (.string (signAt 7)) (.string (s.extract i (i + 1))))
          obtain ⟨cF, fF, zF⟩ := unhide BF
          rw [unhide ht]
          refine bodyPost_ret (v := ptokV (Pu.mkT s i 5 (i + 1))) ?_ rfl ⟨(unhide HB1).set4 (Nat.le_refl _) _ _ _ _, Or.inl ⟨by simp [Pu.mkT], rfl⟩⟩
          have hk : kindB (Pu.mkT s i 5 (i + 1)) = signAt 7 := unhide hxe
          simp only [ptokV, hk]
          simp [results, Tryz.results129, go_sem, cF, Pu.mkT]
        | false =>
          have hn2 : Hid (∀ m, m < 8 → hit s i m = false) := fun m hm => by
            by_cases e : m = 7
            · subst e; exact he
            · exact unhide hno m (by omega)
          go_wp2_with (go_at_call 156; refine (hasSign_C s i 7 hi hs (by omega) (by omega)).mono ?_; rintro e w' ⟨rfl, rfl⟩)
          go_round
          case rel => exact ⟨8, by omega, by go_num, hn2⟩
          case measure => simp [intOf]
      · have hix := idx13_8 (signAt 0) (signAt 1) (signAt 2) (signAt 3) (signAt 4) (signAt 5) (signAt 6) (signAt 7) (signAt 8) (signAt 9) (signAt 10) (signAt 11) (signAt 12)
        have hz : (signAt 8).size = 1 := rfl
        cases he : hit s i 8 with
        | true =>
          have ht := hide (sgn_at 8 (by omega) (by omega) (unhide hno) he)
          have hx := hit_text hi (by omega) he
          rw [hz] at hx
          have hle := hx.1
          have hxe := hide hx.2
          clear hx
          go_wp2_with (first | (go_at_call 156; refine (hasSign_C s i 8 hi hs (by omega) (by omega)).mono ?_; rintro e w' ⟨rfl, rfl⟩) | (go_at_call 124; refine (cut_C s i (i + 1) _ (by omega) hle hs).mono ?_; rintro e w1 ⟨rfl, hb⟩; have B1 := hide ((unhide B0).below hb); have HB1 := hide ((unhide HB).trans (hb.mono (by simp))); obtain ⟨c1, f1, y1⟩ := unhide B1; clear hb))
          have BF := hide ((unhide B1).set4 rfl (.int .i64 (i : Int)) (.int .i64 ((i : Int) + 1)) (.string (signAt 8)) (.string (s.extract i (i + 1))))
          obtain ⟨cF, fF, zF⟩ := unhide BF
          rw [unhide ht]
          refine bodyPost_ret (v := ptokV (Pu.mkT s i 5 (i + 1))) ?_ rfl ⟨(unhide HB1).set4 (Nat.le_refl _) _ _ _ _, Or.inl ⟨by simp [Pu.mkT], rfl⟩⟩
          have hk : kindB (Pu.mkT s i 5 (i + 1)) = signAt 8 := unhide hxe
          simp only [ptokV, hk]
          simp [results, Tryz.results129, go_sem, cF, Pu.mkT]
        | false =>
          have hn2 : Hid (∀ m, m < 9 → hit s i m = false) := fun m hm => by
            by_cases e : m = 8
            · subst e; exact he
            · exact unhide hno m (by omega)
          go_wp2_with (go_at_call 156; refine (hasSign_C s i 8 hi hs (by omega) (by omega)).mono ?_; rintro e w' ⟨rfl, rfl⟩)
          go_round
          case rel => exact ⟨9, by omega, by go_num, hn2⟩
          case measure => simp [intOf]
      · have hix := idx13_9 (signAt 0) (signAt 1) (signAt 2) (signAt 3) (signAt 4) (signAt 5) (signAt 6) (signAt 7) (signAt 8) (signAt 9) (signAt 10) (signAt 11) (signAt 12)
        have hz : (signAt 9).size = 1 := rfl
        cases he : hit s i 9 with
        | true =>
          have ht := hide (sgn_at 9 (by omega) (by omega) (unhide hno) he)
          have hx := hit_text hi (by omega) he
          rw [hz] at hx
          have hle := hx.1
          have hxe := hide hx.2
          clear hx
          go_wp2_with (first | (go_at_call 156; refine (hasSign_C s i 9 hi hs (by omega) (by omega)).mono ?_; rintro e w' ⟨rfl, rfl⟩) | (go_at_call 124; refine (cut_C s i (i + 1) _ (by omega) hle hs).mono ?_; rintro e w1 ⟨rfl, hb⟩; have B1 := hide ((unhide B0).below hb); have HB1 := hide ((unhide HB).trans (hb.mono (by simp))); obtain ⟨c1, f1, y1⟩ := unhide B1; clear hb))
          have BF := hide ((unhide B1).set4 rfl (.int .i64 (i : Int)) (.int .i64 ((i : Int) + 1)) (.string (signAt 9)) (.string (s.extract i (i + 1))))
          obtain ⟨cF, fF, zF⟩ := unhide BF
          rw [unhide ht]
          refine bodyPost_ret (v := ptokV (Pu.mkT s i 5 (i + 1))) ?_ rfl ⟨(unhide HB1).set4 (Nat.le_refl _) _ _ _ _, Or.inl ⟨by simp [Pu.mkT], rfl⟩⟩
          have hk : kindB (Pu.mkT s i 5 (i + 1)) = signAt 9 := unhide hxe
          simp only [ptokV, hk]
          simp [results, Tryz.results129, go_sem, cF, Pu.mkT]
        | false =>
          have hn2 : Hid (∀ m, m < 10 → hit s i m = false) := fun m hm => by
            by_cases e : m = 9
            · subst e; exact he
            · exact unhide hno m (by omega)
          go_wp2_with (go_at_call 156; refine (hasSign_C s i 9 hi hs (by omega) (by omega)).mono ?_; rintro e w' ⟨rfl, rfl⟩)
          go_round
          case rel => exact ⟨10, by omega, by go_num, hn2⟩
          case measure => simp [intOf]
      · have hix := idx13_10 (signAt 0) (signAt 1) (signAt 2) (signAt 3) (signAt 4) (signAt 5) (signAt 6) (signAt 7) (signAt 8) (signAt 9) (signAt 10) (signAt 11) (signAt 12)
        have hz : (signAt 10).size = 1 := rfl
        cases he : hit s i 10 with
        | true =>
          have ht := hide (sgn_at 10 (by omega) (by omega) (unhide hno) he)
          have hx := hit_text hi (by omega) he
          rw [hz] at hx
          have hle := hx.1
          have hxe := hide hx.2
          clear hx
          go_wp2_with (first | (go_at_call 156; refine (hasSign_C s i 10 hi hs (by omega) (by omega)).mono ?_; rintro e w' ⟨rfl, rfl⟩) | (go_at_call 124; refine (cut_C s i (i + 1) _ (by omega) hle hs).mono ?_; rintro e w1 ⟨rfl, hb⟩; have B1 := hide ((unhide B0).below hb); have HB1 := hide ((unhide HB).trans (hb.mono (by simp))); obtain ⟨c1, f1, y1⟩ := unhide B1; clear hb))
          have BF := hide ((unhide B1).set4 rfl (.int .i64 (i : Int)) (.int .i64 ((i : Int) + 1)) (.string (signAt 10)) (.string (s.extract i (i + 1))))
          obtain ⟨cF, fF, zF⟩ := unhide BF
          rw [unhide ht]
          refine bodyPost_ret (v := ptokV (Pu.mkT s i 5 (i + 1))) ?_ rfl ⟨(unhide HB1).set4 (Nat.le_refl _) _ _ _ _, Or.inl ⟨by simp [Pu.mkT], rfl⟩⟩
          have hk : kindB (Pu.mkT s i 5 (i + 1)) = signAt 10 := unhide hxe
          simp only [ptokV, hk]
          simp [results, Tryz.results129, go_sem, cF, Pu.mkT]
        | false =>
          have hn2 : Hid (∀ m, m < 11 → hit s i m = false) := fun m hm => by
            by_cases e : m = 10
            · subst e; exact he
            · exact unhide hno m (by omega)
          go_wp2_with (go_at_call 156; refine (hasSign_C s i 10 hi hs (by omega) (by omega)).mono ?_; rintro e w' ⟨rfl, rfl⟩)
          go_round
          case rel => exact ⟨11, by omega, by go_num, hn2⟩
          case measure => simp [intOf]
      · have hix := idx13_11 (signAt 0) (signAt 1) (signAt 2) (signAt 3) (signAt 4) (signAt 5) (signAt 6) (signAt 7) (signAt 8) (signAt 9) (signAt 10) (signAt 11) (signAt 12)
        have hz : (signAt 11).size = 1 := rfl
        cases he : hit s i 11 with
        | true =>
          have ht := hide (sgn_at 11 (by omega) (by omega) (unhide hno) he)
          have hx := hit_text hi (by omega) he
          rw [hz] at hx
          have hle := hx.1
          have hxe := hide hx.2
          clear hx
          go_wp2_with (first | (go_at_call 156; refine (hasSign_C s i 11 hi hs (by omega) (by omega)).mono ?_; rintro e w' ⟨rfl, rfl⟩) | (go_at_call 124; refine (cut_C s i (i + 1) _ (by omega) hle hs).mono ?_; rintro e w1 ⟨rfl, hb⟩; have B1 := hide ((unhide B0).below hb); have HB1 := hide ((unhide HB).trans (hb.mono (by simp))); obtain ⟨c1, f1, y1⟩ := unhide B1; clear hb))
          have BF := hide ((unhide B1).set4 rfl (.int .i64 (i : Int)) (.int .i64 ((i : Int) + 1)) (.string (signAt 11)) (.string (s.extract i (i + 1))))
          obtain ⟨cF, fF, zF⟩ := unhide BF
          rw [unhide ht]
          refine bodyPost_ret (v := ptokV (Pu.mkT s i 5 (i + 1))) ?_ rfl ⟨(unhide HB1).set4 (Nat.le_refl _) _ _ _ _, Or.inl ⟨by simp [Pu.mkT], rfl⟩⟩
          have hk : kindB (Pu.mkT s i 5 (i + 1)) = signAt 11 := unhide hxe
          simp only [ptokV, hk]
          simp [results, Tryz.results129, go_sem, cF, Pu.mkT]
        | false =>
          have hn2 : Hid (∀ m, m < 12 → hit s i m = false) := fun m hm => by
            by_cases e : m = 11
            · subst e; exact he
            · exact unhide hno m (by omega)
          go_wp2_with (go_at_call 156; refine (hasSign_C s i 11 hi hs (by omega) (by omega)).mono ?_; rintro e w' ⟨rfl, rfl⟩)
          go_round
          case rel => exact ⟨12, by omega, by go_num, hn2⟩
          case measure => simp [intOf]
      · have hix := idx13_12 (signAt 0) (signAt 1) (signAt 2) (signAt 3) (signAt 4) (signAt 5) (signAt 6) (signAt 7) (signAt 8) (signAt 9) (signAt 10) (signAt 11) (signAt 12)
        have hz : (signAt 12).size = 1 := rfl
        cases he : hit s i 12 with
        | true =>
          have ht := hide (sgn_at 12 (by omega) (by omega) (unhide hno) he)
          have hx := hit_text hi (by omega) he
          rw [hz] at hx
          have hle := hx.1
          have hxe := hide hx.2
          clear hx
          go_wp2_with (first | (go_at_call 156; refine (hasSign_C s i 12 hi hs (by omega) (by omega)).mono ?_; rintro e w' ⟨rfl, rfl⟩) | (go_at_call 124; refine (cut_C s i (i + 1) _ (by omega) hle hs).mono ?_; rintro e w1 ⟨rfl, hb⟩; have B1 := hide ((unhide B0).below hb); have HB1 := hide ((unhide HB).trans (hb.mono (by simp))); obtain ⟨c1, f1, y1⟩ := unhide B1; clear hb))
          have BF := hide ((unhide B1).set4 rfl (.int .i64 (i : Int)) (.int .i64 ((i : Int) + 1)) (.string (signAt 12)) (.string (s.extract i (i + 1))))
          obtain ⟨cF, fF, zF⟩ := unhide BF
          rw [unhide ht]
          refine bodyPost_ret (v := ptokV (Pu.mkT s i 5 (i + 1))) ?_ rfl ⟨(unhide HB1).set4 (Nat.le_refl _) _ _ _ _, Or.inl ⟨by simp [Pu.mkT], rfl⟩⟩
          have hk : kindB (Pu.mkT s i 5 (i + 1)) = signAt 12 := unhide hxe
          simp only [ptokV, hk]
          simp [results, Tryz.results129, go_sem, cF, Pu.mkT]
        | false =>
          have hn2 : Hid (∀ m, m < 13 → hit s i m = false) := fun m hm => by
            by_cases e : m = 12
            · subst e; exact he
            · exact unhide hno m (by omega)
          go_wp2_with (go_at_call 156; refine (hasSign_C s i 12 hi hs (by omega) (by omega)).mono ?_; rintro e w' ⟨rfl, rfl⟩)
          go_round
          case rel => exact ⟨13, by omega, by go_num, hn2⟩
          case measure => simp [intOf]
    · have ht := hide (sgn_no (s := s) (i := i) (fun m hm => unhide hno m (by omega)))
      go_wp2_with (go_at_call 155; refine (noToken_C _ _).mono ?_; rintro e w1 ⟨rfl, hb⟩; have HB1 := hide ((unhide HB).trans (hb.mono (by simp))); clear hb)
      rw [unhide ht]
      exact ⟨rfl, unhide HB1, Or.inr ⟨rfl, rfl⟩⟩
end
end Go.Proofs.YteneoapickhpdaaGreatDoor
