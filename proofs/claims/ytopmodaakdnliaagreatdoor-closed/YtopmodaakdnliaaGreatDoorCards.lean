/-
  DERIVED. GIVEN WITH THE SEED: THE CARDS: each row of YtopmodaakdnliaaGreatDoorRows.lean that lists a variable, with what it lists TIED to the program's text (the seventh form; the later family's looks); each row that meets fmt, with fmt's text TOLD by the authors' own Lean function (tested against real Go, not proved from fmt's source: count such statements apart). THE CARD IS WHAT COUNTS. Prove the row's statement (the work); the ties are given (YtopmodaakdnliaaGreatDoorTie.lean); close each card by the builder's one call (the guide's Derived/Test/ToyasCard.lean, 'card_holds'). Laid BY PROGRAM, IN A SANDBOX (cutbox-door.mjs). By AI agents, Wed Nov 11 2026. No macro, syntax, notation, axiom, sorry.
-/
import Derived.Test.YtopmodaakdnliaaGreatDoorRows
import GoSem.ClaimSeven
namespace Go.Proofs.YtopmodaakdnliaaGreatDoor
namespace Rows

/-- THE TIED CARD OF 'assaykeep.Closed'. -/
def closedCard : Claim7 := { stood := { row := closedRow, standIns := [], harness := (true, "96adea19d20a7fd415f1cb825021064dbb33d813f7b7412a88808942508dc129"), looks := true }, kinds := [], alts := [], laidByText := true, laidKinds := [.data, .data, .data, .sentinel, .sentinel, .data, .data], laidTests := true, laidLooks := .later }
def ClosedCardSaid : Prop := Claim7.holds Tryz.pinned (.plain (OpenSpec.ofChange closedSpec)) closedCard

/-- THE SECOND FORM's CARD OF 'assaykeep.Closed'. -/
def closedUptoCard : Claim7 := { stood := { row := closedUptoRow, standIns := [], harness := (true, "96adea19d20a7fd415f1cb825021064dbb33d813f7b7412a88808942508dc129"), looks := true }, kinds := [], alts := [], laidByText := true, laidKinds := [.data, .data, .data, .sentinel, .sentinel, .data, .data], laidTests := true, laidLooks := .later }
def ClosedUptoCardSaid : Prop := Claim7.holds Tryz.pinned (.plain (OpenSpec.upto closedSpec)) closedUptoCard
end Rows
end Go.Proofs.YtopmodaakdnliaaGreatDoor
