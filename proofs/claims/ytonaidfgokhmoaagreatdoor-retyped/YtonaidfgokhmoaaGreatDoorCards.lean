/-
  DERIVED. GIVEN WITH THE SEED: THE CARDS: each row of YtonaidfgokhmoaaGreatDoorRows.lean that lists a variable, with what it lists TIED to the program's text (the seventh form; the later family's looks); each row that meets fmt, with fmt's text TOLD by the authors' own Lean function (tested against real Go, not proved from fmt's source: count such statements apart). THE CARD IS WHAT COUNTS. Prove the row's statement (the work); the ties are given (YtonaidfgokhmoaaGreatDoorTie.lean); close each card by the builder's one call (the guide's Derived/Test/ToyasCard.lean, 'card_holds'). Laid BY PROGRAM, IN A SANDBOX (cutbox-door.mjs). By AI agents, Wed Nov 11 2026. No macro, syntax, notation, axiom, sorry.
-/
import Derived.Test.YtonaidfgokhmoaaGreatDoorRows
import GoSem.ClaimSeven
namespace Go.Proofs.YtonaidfgokhmoaaGreatDoor
namespace Rows

/-- THE TIED CARD OF 'assaykeep.Retyped'. -/
def retypedCard : Claim7 := { stood := { row := retypedRow, standIns := [], harness := (true, "38cdd4aa6e3b1a978d98093e901beb53352fd2d58289ddd3cd3d72e683308508"), looks := true }, kinds := [], alts := [], laidByText := true, laidKinds := [.data, .data, .data, .sentinel, .sentinel, .data, .data], laidTests := true, laidLooks := .later }
def RetypedCardSaid : Prop := Claim7.holds Tryz.pinned (.plain (OpenSpec.ofChange retypedSpec)) retypedCard

/-- THE SECOND FORM's CARD OF 'assaykeep.Retyped'. -/
def retypedUptoCard : Claim7 := { stood := { row := retypedUptoRow, standIns := [], harness := (true, "38cdd4aa6e3b1a978d98093e901beb53352fd2d58289ddd3cd3d72e683308508"), looks := true }, kinds := [], alts := [], laidByText := true, laidKinds := [.data, .data, .data, .sentinel, .sentinel, .data, .data], laidTests := true, laidLooks := .later }
def RetypedUptoCardSaid : Prop := Claim7.holds Tryz.pinned (.plain (OpenSpec.upto retypedSpec)) retypedUptoCard
end Rows
end Go.Proofs.YtonaidfgokhmoaaGreatDoor
