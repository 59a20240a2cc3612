import Derived.Deep.LoopGhost
import Derived.Laws.MakeOwn
import Derived.Test.YteneoapickhpdaaGreatDoorGTf
import Derived.Test.YteneoapickhpdaaGreatDoorGPk
set_option linter.unusedSimpArgs false
set_option linter.unusedVariables false
set_option linter.unusedSectionVars false
namespace Go.Proofs.YteneoapickhpdaaGreatDoor
open Go Go.RowKit Go.ChangeMaps Un
/-- A variable's name without its sign. -/
def tl (s : ByteArray) : ByteArray := s.extract 1 s.size
def Quo (s : ByteArray) : Prop := ∃ r, s.toList = 39 :: r
theorem tl_list {s : ByteArray} {r : List UInt8} (h : s.toList = 39 :: r) : (tl s).toList = r := by
  unfold tl
  rw [ByteArray.toList_eq] at h ⊢
  rw [ByteArray.data_extract]
  simp
  rw [h]
  have : s.size = (39 :: r).length := by rw [← h]; simp
  rw [this]
  simp
/-- The names that have come so far, each with its variable. -/
def nmF : Nat → List ByteArray → List (ByteArray × Value)
  | _, [] => []
  | i, a :: l => (tl a, .int .i64 ((i : Int) + 1)) :: nmF (i + 1) l
/-- What tells the variable of a name, in memory. -/
structure NM (w : World) (kb fb cb mb : Nat) (ns : List ByteArray) : Prop where
  bk : Bx w kb #[.map (some mb)]
  bf : Bx w fb #[.func (.func 31) #[] #[.pointer (some ⟨cb, 0, none⟩)]]
  bc : Bx w cb #[.int .i64 (ns.length : Int)]
  mp : MS Value.string w mb (nmF 0 ns)
  qo : ∀ a ∈ ns, Quo a
  nd : ns.Nodup
  d1 : cb ≠ kb ∧ cb ≠ fb ∧ cb ≠ mb ∧ mb ≠ kb ∧ mb ≠ fb
abbrev nmV (kb fb : Nat) : Value := .func (.func 30) #[] #[.pointer (some ⟨kb, 0, none⟩), .pointer (some ⟨fb, 0, none⟩)]
def Two (cb mb : Nat) (b : Nat) : Prop := b = cb ∨ b = mb
theorem NM.fr {S : Nat → Prop} {w w' : World} {kb fb cb mb : Nat} {ns : List ByteArray} (h : NM w kb fb cb mb ns) (hf : Fr S w w') (hS : ∀ b, S b → b ≠ kb ∧ b ≠ fb ∧ b ≠ cb ∧ b ≠ mb) : NM w' kb fb cb mb ns :=
  ⟨h.bk.fr hf (fun q => (hS _ q).1 rfl), h.bf.fr hf (fun q => (hS _ q).2.1 rfl), h.bc.fr hf (fun q => (hS _ q).2.2.1 rfl), h.mp.same (hf.block mb h.mp.lt (fun q => (hS _ q).2.2.2 rfl)), h.qo, h.nd, h.d1⟩
theorem NM.bel {w w' : World} {kb fb cb mb : Nat} {ns : List ByteArray} (h : NM w kb fb cb mb ns) (hb : Below w.heap.size w w') : NM w' kb fb cb mb ns := h.fr (S := fun _ => False) (Fr.of hb) (fun _ q => q.elim)
theorem NM.set {w : World} {kb fb cb mb : Nat} {ns : List ByteArray} (h : NM w kb fb cb mb ns) {b : Nat} (hb : b ≠ kb ∧ b ≠ fb ∧ b ≠ cb ∧ b ≠ mb) (j : Nat) (v : Value) : NM (w.setCell ⟨b, j, none⟩ v) kb fb cb mb ns :=
  h.fr (S := fun x => x = b) ((Fr.refl (fun x => x = b) w).set (Or.inl rfl) j v) (fun x q => by subst q; exact hb)
section
variable {w : World} {kb fb cb mb : Nat} {ns : List ByteArray}
def NameOf (kb fb cb mb : Nat) (ns : List ByteArray) (s : ByteArray) (w : World) (e : Ending) (w' : World) : Prop :=
  e = .returned (.iface 79 (.int .i64 ((ix s (addN s ns) : Int) + 1))) ∧ NM w' kb fb cb mb (addN s ns) ∧ Fr (Two cb mb) w w'
end
end Go.Proofs.YteneoapickhpdaaGreatDoor
namespace Go.Proofs.YteneoapickhpdaaGreatDoor
open Go Go.RowKit Go.ChangeMaps Un
/-- What the project calls what a type is made by. -/
def pn (c : ByteArray) : ByteArray := if c.toList = [62] then ⟨#[45, 62]⟩ else c
/-- What a type can be made by. -/
def CN (c : ByteArray) : Prop := c = nFn ∨ c = nPr ∨ UpN c
theorem upN_ne {c : ByteArray} (h : UpN c) (x : UInt8) (r : List UInt8) (hx : Pu.upB x.toNat = false) : c.toList ≠ x :: r := by
  obtain ⟨y, q, h1, h2⟩ := h
  intro e
  rw [h1] at e
  injection e with e1 _
  subst e1
  rw [hx] at h2
  cases h2
/-- A type apart from any source, as it lies in memory. -/
inductive TyV (w : World) (P : Nat → Prop) : Ty → Value → Prop where
  | var (n : Nat) : TyV w P (.var n) (.iface 79 (.int .i64 (n : Int)))
  | con (c : ByteArray) (L : List Ty) (sa : Option Addr) (sc : Nat) (vs : Nat → Value) (hc : CN c) (hrow : L = [] ∨ ∃ g, sa = some ⟨g, 0, none⟩ ∧ P g ∧ g < w.heap.size ∧ ∀ i, i < L.length → w.cell? ⟨g, i, none⟩ = some (vs i)) (hr : ∀ i (h : i < L.length), TyV w P L[i] (vs i)) :
      TyV w P (.con c L) (.iface 148 (.agg #[.string (pn c), .slice sa L.length sc]))
theorem TyV.move {w w' : World} {P Q : Nat → Prop} {t : Ty} {v : Value} (h : TyV w P t v) (hs : w.heap.size ≤ w'.heap.size) (hb : ∀ b, P b → b < w.heap.size → w'.heap[b]? = w.heap[b]?) (hq : ∀ b, P b → b < w.heap.size → Q b) : TyV w' Q t v := by
  induction h with
  | var n => exact .var n
  | con c L sa sc vs hc hrow hr ih =>
    refine .con c L sa sc vs hc ?_ ih
    rcases hrow with h0 | ⟨g, h1, hP, hz, hc⟩
    · exact Or.inl h0
    · refine Or.inr ⟨g, h1, hq g hP hz, Nat.lt_of_lt_of_le hz hs, fun i hi => ?_⟩
      rw [World.cell?_of_block (a := ⟨g, i, none⟩) (w := w) (hb g hP hz)]
      exact hc i hi
theorem TyV.bel {w w' : World} {P : Nat → Prop} {t : Ty} {v : Value} (h : TyV w P t v) (hb : Below w.heap.size w w') : TyV w' P t v := h.move hb.size (fun b _ hz => hb.block b hz) (fun _ p _ => p)
theorem TyV.wide {w : World} {P Q : Nat → Prop} {t : Ty} {v : Value} (h : TyV w P t v) (hq : ∀ b, P b → Q b) : TyV w Q t v := h.move (Nat.le_refl _) (fun _ _ _ => rfl) (fun b p _ => hq b p)
theorem TyV.fr {S : Nat → Prop} {w w' : World} {P : Nat → Prop} {t : Ty} {v : Value} (h : TyV w P t v) (hf : Fr S w w') (hS : ∀ b, P b → b < w.heap.size → ¬ S b) : TyV w' P t v := h.move hf.size (fun b p z => hf.block b z (hS b p z)) (fun _ p _ => p)
theorem TyV.low {w : World} {P : Nat → Prop} {t : Ty} {v : Value} (h : TyV w P t v) : TyV w (fun b => P b ∧ b < w.heap.size) t v := h.move (Nat.le_refl _) (fun _ _ _ => rfl) (fun _ p z => ⟨p, z⟩)
theorem TyV.iface {w : World} {P : Nat → Prop} {t : Ty} {v : Value} (h : TyV w P t v) : ∃ a x, v = .iface a x := by
  cases h <;> exact ⟨_, _, rfl⟩
theorem PT.fr {S : Nat → Prop} {w w' : World} {P : Nat → Prop} {nd : Nd} {v : Value} (h : PT w P nd v) (hf : Fr S w w') (hS : ∀ b, P b → b < w.heap.size → ¬ S b) : PT w' P nd v := h.move hf.size (fun b p z => hf.block b z (hS b p z)) (fun _ p _ => p)
theorem PT.iface' {w : World} {P : Nat → Prop} {a : Nd} {v : Value} (h : PT w P a v) : ∃ t x, v = .iface t (.agg x) := by
  cases h <;> exact ⟨_, _, rfl⟩
def OfPost' (kb fb cb mb : Nat) (ns : List ByteArray) (T : Ty) (ns' : List ByteArray) (w : World) (e : Ending) (w' : World) : Prop :=
  ∃ u, e = .returned u ∧ TyV w' (fun b => w.heap.size ≤ b) T u ∧ NM w' kb fb cb mb ns' ∧ Fr (Two cb mb) w w'
/-- That types.Of keeps its promise. -/
def OfC (nd : Nd) : Prop := ∀ (w : World) (kb fb cb mb : Nat) (ns : List ByteArray) (Q : Nat → Prop) (v : Value), NM w kb fb cb mb ns → PT w Q nd v → (∀ b, Q b → b ≠ cb ∧ b ≠ mb) → (mean ns nd).2.length ≤ 1000 →
  Calls Tryz.prog 33 #[v, nmV kb fb] w (OfPost' kb fb cb mb ns (mean ns nd).1 (mean ns nd).2 w)
theorem NM.lt {w : World} {kb fb cb mb : Nat} {ns : List ByteArray} (h : NM w kb fb cb mb ns) : kb < w.heap.size ∧ fb < w.heap.size ∧ cb < w.heap.size ∧ mb < w.heap.size := ⟨h.bk.z, h.bf.z, h.bc.z, h.mp.lt⟩
/-- What holds ahead of each round of madeOf. -/
def MadeRel (kb fb cb mb : Nat) (ns : List ByteArray) (L : List Nd) (w : World) (gk : Nat) (v : Value) (wr : World) : Prop :=
  ∃ (j : Nat) (C : Array Value), Hid (gk = L.length - j) ∧ j ≤ L.length ∧ v = .int .i64 (j : Int) ∧ NM wr kb fb cb mb (meanL ns (L.take j)).2 ∧ Fr (Two cb mb) w wr ∧ Bx wr w.heap.size C ∧ Hid (C.size = L.length) ∧
    Hid (∀ i (h : i < (meanL ns (L.take j)).1.length), ∃ u, C[i]? = some u ∧ TyV wr (fun b => w.heap.size < b ∧ b < wr.heap.size) (meanL ns (L.take j)).1[i] u)
section
variable {w : World} {kb fb cb mb : Nat} {ns : List ByteArray} {Q : Nat → Prop}
end
end Go.Proofs.YteneoapickhpdaaGreatDoor
namespace Go.Proofs.YteneoapickhpdaaGreatDoor
open Go Go.RowKit Go.ChangeMaps Un
theorem taVV (a0 a1 a2 : Value) (w : World) : (Instr.typeAssert (.iface 138 (.agg #[a0, a1, a2])) 82 138 true).run Tryz.prog w = .ok (.tuple #[.agg #[a0, a1, a2], .bool true]) w := by kernel_rfl
theorem taVA (a0 a1 a2 : Value) (w : World) : (Instr.typeAssert (.iface 138 (.agg #[a0, a1, a2])) 82 140 true).run Tryz.prog w = .ok (.tuple #[.agg #[.int .i64 0, .int .i64 0, .nilIface, .nilIface], .bool false]) w := by kernel_rfl
theorem taVN (a0 a1 a2 : Value) (w : World) : (Instr.typeAssert (.iface 138 (.agg #[a0, a1, a2])) 82 145 true).run Tryz.prog w = .ok (.tuple #[.agg #[.int .i64 0, .int .i64 0, .int .i64 0, .int .i64 0, .string ⟨#[]⟩, .slice none 0 0], .bool false]) w := by kernel_rfl
theorem taAV (a0 a1 a2 a3 : Value) (w : World) : (Instr.typeAssert (.iface 140 (.agg #[a0, a1, a2, a3])) 82 138 true).run Tryz.prog w = .ok (.tuple #[.agg #[.int .i64 0, .int .i64 0, .string ⟨#[]⟩], .bool false]) w := by kernel_rfl
theorem taAA (a0 a1 a2 a3 : Value) (w : World) : (Instr.typeAssert (.iface 140 (.agg #[a0, a1, a2, a3])) 82 140 true).run Tryz.prog w = .ok (.tuple #[.agg #[a0, a1, a2, a3], .bool true]) w := by kernel_rfl
theorem taAP (a0 a1 a2 a3 : Value) (w : World) : (Instr.typeAssert (.iface 140 (.agg #[a0, a1, a2, a3])) 82 142 true).run Tryz.prog w = .ok (.tuple #[.agg #[.int .i64 0, .int .i64 0, .nilIface, .nilIface], .bool false]) w := by kernel_rfl
theorem taAN (a0 a1 a2 a3 : Value) (w : World) : (Instr.typeAssert (.iface 140 (.agg #[a0, a1, a2, a3])) 82 145 true).run Tryz.prog w = .ok (.tuple #[.agg #[.int .i64 0, .int .i64 0, .int .i64 0, .int .i64 0, .string ⟨#[]⟩, .slice none 0 0], .bool false]) w := by kernel_rfl
theorem taPV (a0 a1 a2 a3 : Value) (w : World) : (Instr.typeAssert (.iface 142 (.agg #[a0, a1, a2, a3])) 82 138 true).run Tryz.prog w = .ok (.tuple #[.agg #[.int .i64 0, .int .i64 0, .string ⟨#[]⟩], .bool false]) w := by kernel_rfl
theorem taPA (a0 a1 a2 a3 : Value) (w : World) : (Instr.typeAssert (.iface 142 (.agg #[a0, a1, a2, a3])) 82 140 true).run Tryz.prog w = .ok (.tuple #[.agg #[.int .i64 0, .int .i64 0, .nilIface, .nilIface], .bool false]) w := by kernel_rfl
theorem taPP (a0 a1 a2 a3 : Value) (w : World) : (Instr.typeAssert (.iface 142 (.agg #[a0, a1, a2, a3])) 82 142 true).run Tryz.prog w = .ok (.tuple #[.agg #[a0, a1, a2, a3], .bool true]) w := by kernel_rfl
theorem taPN (a0 a1 a2 a3 : Value) (w : World) : (Instr.typeAssert (.iface 142 (.agg #[a0, a1, a2, a3])) 82 145 true).run Tryz.prog w = .ok (.tuple #[.agg #[.int .i64 0, .int .i64 0, .int .i64 0, .int .i64 0, .string ⟨#[]⟩, .slice none 0 0], .bool false]) w := by kernel_rfl
theorem taNV (a0 a1 a2 a3 a4 a5 : Value) (w : World) : (Instr.typeAssert (.iface 145 (.agg #[a0, a1, a2, a3, a4, a5])) 82 138 true).run Tryz.prog w = .ok (.tuple #[.agg #[.int .i64 0, .int .i64 0, .string ⟨#[]⟩], .bool false]) w := by kernel_rfl
theorem taNA (a0 a1 a2 a3 a4 a5 : Value) (w : World) : (Instr.typeAssert (.iface 145 (.agg #[a0, a1, a2, a3, a4, a5])) 82 140 true).run Tryz.prog w = .ok (.tuple #[.agg #[.int .i64 0, .int .i64 0, .nilIface, .nilIface], .bool false]) w := by kernel_rfl
theorem taNN (a0 a1 a2 a3 a4 a5 : Value) (w : World) : (Instr.typeAssert (.iface 145 (.agg #[a0, a1, a2, a3, a4, a5])) 82 145 true).run Tryz.prog w = .ok (.tuple #[.agg #[a0, a1, a2, a3, a4, a5], .bool true]) w := by kernel_rfl
theorem OfPost'.up {kb fb cb mb : Nat} {ns : List ByteArray} {T : Ty} {ns' : List ByteArray} {w w0 : World} {e : Ending} {w' : World} (h : OfPost' kb fb cb mb ns T ns' w0 e w') (hb : Below w.heap.size w w0) : OfPost' kb fb cb mb ns T ns' w e w' := by
  obtain ⟨u, h1, h2, h3, h4⟩ := h
  exact ⟨u, h1, h2.wide fun b p => Nat.le_trans hb.size p, h3, (Fr.of hb).trans h4⟩
section
variable {w : World} {kb fb cb mb : Nat} {ns : List ByteArray} {Q : Nat → Prop}
end
end Go.Proofs.YteneoapickhpdaaGreatDoor
