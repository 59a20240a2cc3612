import Derived.Test.YteneoapickhpdaaGreatDoorGTf
import Derived.Test.YteneoapickhpdaaGreatDoorGSj
import Derived.Test.YteneoapickhpdaaGreatDoorGTj
set_option linter.unusedSimpArgs false
set_option linter.unusedVariables false
set_option linter.unusedSectionVars false
namespace Go.Proofs.YteneoapickhpdaaGreatDoor
open Go Go.RowKit Un

/-- The text of a type, read: what is wrong, or the part that it is. -/
def readT (s : ByteArray) : Except Fl Nd :=
  if 400 < s.size then .error ⟨1, 0, 0⟩ else
  match typM (Pu.toks s 0) (Pu.toks s 0).length 0 with
  | .error f => .error f
  | .ok (a, k) => if (tk (Pu.toks s 0) k).kind == 7 then .ok a else .error (flOf (tk (Pu.toks s 0) k))
def flV (f : Fl) : Value := .agg #[.int .i64 (f.kind : Int), .int .i64 (f.frm : Int), .int .i64 (f.to : Int)]
def TypedPost (s : ByteArray) (w : World) (e : Ending) (w' : World) : Prop :=
  ∃ x f, e = .returned (.tuple #[NV.v x, flV f]) ∧ Below w.heap.size w w' ∧ match readT s with
    | .error f' => f = f' ∧ f.kind ≠ 0
    | .ok a => (f = noFl ∧ NR w' (fun b => w.heap.size ≤ b) a x) ∧ TyNd a ∧ cnt a ≤ 401
section
variable {w : World}
theorem _root_.Go.RowKit.Below.ke' {B rb : Nat} {a b c : World} (h : Below B a b) (k : Ke rb b c) (hr : B ≤ rb) (hB : B ≤ b.heap.size) : Below B a c :=
  ⟨k.os.trans h.os, k.tape.trans h.tape, k.output.trans h.output, Nat.le_trans h.size k.size, fun i hi => (k.block i (by omega) (by omega)).trans (h.block i hi)⟩
end
end Go.Proofs.YteneoapickhpdaaGreatDoor
namespace Go.Proofs.YteneoapickhpdaaGreatDoor
open Go Go.RowKit Un
abbrev zFl : Array Value := #[.int .i64 0, .int .i64 0, .int .i64 0]
abbrev flA (f : Fl) : Array Value := #[.int .i64 (f.kind : Int), .int .i64 (f.frm : Int), .int .i64 (f.to : Int)]
section
variable {w : World} {kb nb : Nat} {hv iv lv nv : Value} {ns : List ByteArray} {K : Nat → Option Ty} {R : Nat → Ty} {rk : Nat → Nat} {P : Nat → Prop}
end
end Go.Proofs.YteneoapickhpdaaGreatDoor
