/-
  DERIVED. GIVEN WITH THE SEED: THE CARDS: each row of YtfflpeklkfjdnaaGreatDoorRows.lean that lists a variable, with what it lists TIED to the program's text (the seventh form; the later family's looks); each row that meets fmt, with fmt's text TOLD by the authors' own Lean function (tested against real Go, not proved from fmt's source: count such statements apart). THE CARD IS WHAT COUNTS. Prove the row's statement (the work); the ties are given (YtfflpeklkfjdnaaGreatDoorTie.lean); close each card by the builder's one call (the guide's Derived/Test/ToyasCard.lean, 'card_holds'). Laid BY PROGRAM, IN A SANDBOX (cutbox-door.mjs). By AI agents, Wed Nov 11 2026. No macro, syntax, notation, axiom, sorry.
-/
import Derived.Test.YtfflpeklkfjdnaaGreatDoorRows
import GoSem.ClaimSeven
namespace Go.Proofs.YtfflpeklkfjdnaaGreatDoor
namespace Rows

/-- THE TIED CARD OF 'assaylaw.Canons'. -/
def canonsCard : Claim7 := { stood := { row := canonsRow, standIns := [], harness := (true, "b91be000e29bc9a17986b561bdfa3b711344887f391a4b55acebc4f066bac3fe"), looks := true }, kinds := [], alts := [], laidByText := true, laidKinds := [.data, .data, .sentinel, .sentinel, .data, .data, .data], laidTests := true, laidLooks := .later }
def CanonsCardSaid : Prop := Claim7.holds Tryz.pinned (.plain (OpenSpec.ofChange canonsSpec)) canonsCard

/-- THE SECOND FORM's CARD OF 'assaylaw.Canons'. -/
def canonsUptoCard : Claim7 := { stood := { row := canonsUptoRow, standIns := [], harness := (true, "b91be000e29bc9a17986b561bdfa3b711344887f391a4b55acebc4f066bac3fe"), looks := true }, kinds := [], alts := [], laidByText := true, laidKinds := [.data, .data, .sentinel, .sentinel, .data, .data, .data], laidTests := true, laidLooks := .later }
def CanonsUptoCardSaid : Prop := Claim7.holds Tryz.pinned (.plain (OpenSpec.upto canonsSpec)) canonsUptoCard
end Rows
end Go.Proofs.YtfflpeklkfjdnaaGreatDoor
