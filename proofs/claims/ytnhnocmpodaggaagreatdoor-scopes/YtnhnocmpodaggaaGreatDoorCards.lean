/-
  DERIVED. GIVEN WITH THE SEED: THE CARDS: each row of YtnhnocmpodaggaaGreatDoorRows.lean that lists a variable, with what it lists TIED to the program's text (the seventh form; the later family's looks); each row that meets fmt, with fmt's text TOLD by the authors' own Lean function (tested against real Go, not proved from fmt's source: count such statements apart). THE CARD IS WHAT COUNTS. Prove the row's statement (the work); the ties are given (YtnhnocmpodaggaaGreatDoorTie.lean); close each card by the builder's one call (the guide's Derived/Test/ToyasCard.lean, 'card_holds'). Laid BY PROGRAM, IN A SANDBOX (cutbox-door.mjs). By AI agents, Wed Nov 11 2026. No macro, syntax, notation, axiom, sorry.
-/
import Derived.Test.YtnhnocmpodaggaaGreatDoorRows
import GoSem.ClaimSeven
namespace Go.Proofs.YtnhnocmpodaggaaGreatDoor
namespace Rows

/-- THE TIED CARD OF 'assaylaw.Shows'. -/
def showsCard : Claim7 := { stood := { row := showsRow, standIns := [], harness := (true, "7a3ad1067c7126c1279ff7dfebe8ddb9d9bd23ff7683f31b436ea1102aa6be56"), looks := true }, kinds := [], alts := [], laidByText := true, laidKinds := [.data, .data, .data, .sentinel, .sentinel, .data, .data], laidTests := true, laidLooks := .later }
def ShowsCardSaid : Prop := Claim7.holds Tryz.pinned (.plain (OpenSpec.ofChange showsSpec)) showsCard

/-- THE TIED CARD OF 'assaylaw.Scopes'. -/
def scopesCard : Claim7 := { stood := { row := scopesRow, standIns := [], harness := (true, "7a3ad1067c7126c1279ff7dfebe8ddb9d9bd23ff7683f31b436ea1102aa6be56"), looks := true }, kinds := [], alts := [], laidByText := true, laidKinds := [.data, .data, .data, .sentinel, .sentinel, .data, .data], laidTests := true, laidLooks := .later }
def ScopesCardSaid : Prop := Claim7.holds Tryz.pinned (.plain (OpenSpec.ofChange scopesSpec)) scopesCard

/-- THE SECOND FORM's CARD OF 'assaylaw.Shows'. -/
def showsUptoCard : Claim7 := { stood := { row := showsUptoRow, standIns := [], harness := (true, "7a3ad1067c7126c1279ff7dfebe8ddb9d9bd23ff7683f31b436ea1102aa6be56"), looks := true }, kinds := [], alts := [], laidByText := true, laidKinds := [.data, .data, .data, .sentinel, .sentinel, .data, .data], laidTests := true, laidLooks := .later }
def ShowsUptoCardSaid : Prop := Claim7.holds Tryz.pinned (.plain (OpenSpec.upto showsSpec)) showsUptoCard

/-- THE SECOND FORM's CARD OF 'assaylaw.Scopes'. -/
def scopesUptoCard : Claim7 := { stood := { row := scopesUptoRow, standIns := [], harness := (true, "7a3ad1067c7126c1279ff7dfebe8ddb9d9bd23ff7683f31b436ea1102aa6be56"), looks := true }, kinds := [], alts := [], laidByText := true, laidKinds := [.data, .data, .data, .sentinel, .sentinel, .data, .data], laidTests := true, laidLooks := .later }
def ScopesUptoCardSaid : Prop := Claim7.holds Tryz.pinned (.plain (OpenSpec.upto scopesSpec)) scopesUptoCard
end Rows
end Go.Proofs.YtnhnocmpodaggaaGreatDoor
