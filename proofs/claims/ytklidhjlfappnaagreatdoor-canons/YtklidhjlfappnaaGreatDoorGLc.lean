import Derived.Test.YtklidhjlfappnaaGreatDoorGLb
import Derived.Test.YtklidhjlfappnaaGreatDoorGVn
import Derived.Test.YtklidhjlfappnaaGreatDoorGTv
set_option linter.unusedSimpArgs false
set_option linter.unusedVariables false
set_option linter.unusedSectionVars false
namespace Go.Proofs.YtklidhjlfappnaaGreatDoor
open Go Go.RowKit Un
section
variable {w : World}
theorem flV_ft (f : Fl) : flV f = ftV (f.kind : Int) (f.frm : Int) (f.to : Int) := rfl
/-- A step of Canon or Unify is as the document says. -/
theorem plays_C (hL : Laid w) (k n : Int) (a b : ByteArray) (bv : Value) (h2 : 2 ≤ k) (h3 : k ≤ 3) : Calls Tryz.prog 18 #[bv, opV k n a b] w fun e w' => e = .returned (.bool true) ∧ Below w.heap.size w w' := by
  have hk : k = 2 ∨ k = 3 := by omega
  rcases hk with rfl | rfl
  · exact plays_canon (fun W hb => (CanonP_C (hL.bel hb) a).mono fun e w' q => q) (fun W => (Canon_C a).mono fun e w' q => by
      obtain ⟨z, f, e1, hb, rfl, rfl⟩ := q
      exact ⟨e1, hb⟩)
  · refine plays_unify (U := fun z ok k i j => ∃ l f, UniA a b l ok f ∧ z = bs l ∧ k = ((f.kind : Nat) : Int) ∧ i = ((f.frm : Nat) : Int) ∧ j = ((f.to : Nat) : Int)) ?_ (fun W hb => (Unify_P (hL.bel hb) a b).mono fun e w' q => ?_) (fun W => (Unify_C a b).mono fun e w' q => ?_)
    · rintro z ok k i j z' ok' k' i' j' ⟨l, f, h, rfl, rfl, rfl, rfl⟩ ⟨l', f', h', rfl, rfl, rfl, rfl⟩
      obtain ⟨rfl, rfl, rfl⟩ := h.one h'
      exact ⟨rfl, rfl, rfl, rfl, rfl⟩
    · obtain ⟨z, ok, f, e1, hu, hb⟩ := q
      exact ⟨_, _, _, _, _, e1, ⟨z, f, hu, rfl, rfl, rfl, rfl⟩, hb⟩
    · obtain ⟨z, ok, f, e1, hb, hu⟩ := q
      exact ⟨_, _, _, _, _, e1, ⟨z, f, hu, rfl, rfl, rfl, rfl⟩, hb⟩
/-- Canons of any script: true, and nothing old is turned. -/
theorem Canons_law (hL : Laid w) {p : Option Addr} {len cap : Nat} {K N : Nat → Int} {A B : Nat → ByteArray} (hlen : (len : Int) ≤ 9223372036854775807) (hS : Scr w p len K N A B) :
    Calls Tryz.prog 5 #[.slice p len cap] w fun e w' => e = .returned (.bool true) ∧ Below w.heap.size w w' :=
  Canons_C hlen hS fun i W bv _ hb h2 h3 => plays_C (hL.bel hb) _ _ _ _ bv h2 h3
end
end Go.Proofs.YtklidhjlfappnaaGreatDoor
