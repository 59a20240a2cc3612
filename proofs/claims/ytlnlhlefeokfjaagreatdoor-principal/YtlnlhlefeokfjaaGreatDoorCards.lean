/-
  DERIVED. GIVEN WITH THE SEED: THE CARDS: each row of YtlnlhlefeokfjaaGreatDoorRows.lean that lists a variable, with what it lists TIED to the program's text (the seventh form; the later family's looks); each row that meets fmt, with fmt's text TOLD by the authors' own Lean function (tested against real Go, not proved from fmt's source: count such statements apart). THE CARD IS WHAT COUNTS. Prove the row's statement (the work); the ties are given (YtlnlhlefeokfjaaGreatDoorTie.lean); close each card by the builder's one call (the guide's Derived/Test/ToyasCard.lean, 'card_holds'). Laid BY PROGRAM, IN A SANDBOX (cutbox-door.mjs). By AI agents, Wed Nov 11 2026. No macro, syntax, notation, axiom, sorry.
-/
import Derived.Test.YtlnlhlefeokfjaaGreatDoorRows
import GoSem.ClaimSeven
namespace Go.Proofs.YtlnlhlefeokfjaaGreatDoor
namespace Rows

/-- THE TIED CARD OF 'assaykeep.Principal'. -/
def principalCard : Claim7 := { stood := { row := principalRow, standIns := [], harness := (true, "d327f1617c0957c14cf1e8eab83336c32cadaecdd6f39aa529d81c2c5cf0fa5b"), looks := true }, kinds := [], alts := [], laidByText := true, laidKinds := [.data, .data, .data, .sentinel, .sentinel, .data, .data], laidTests := true, laidLooks := .later }
def PrincipalCardSaid : Prop := Claim7.holds Tryz.pinned (.plain (OpenSpec.ofChange principalSpec)) principalCard

/-- THE SECOND FORM's CARD OF 'assaykeep.Principal'. -/
def principalUptoCard : Claim7 := { stood := { row := principalUptoRow, standIns := [], harness := (true, "d327f1617c0957c14cf1e8eab83336c32cadaecdd6f39aa529d81c2c5cf0fa5b"), looks := true }, kinds := [], alts := [], laidByText := true, laidKinds := [.data, .data, .data, .sentinel, .sentinel, .data, .data], laidTests := true, laidLooks := .later }
def PrincipalUptoCardSaid : Prop := Claim7.holds Tryz.pinned (.plain (OpenSpec.upto principalSpec)) principalUptoCard
end Rows
end Go.Proofs.YtlnlhlefeokfjaaGreatDoor
