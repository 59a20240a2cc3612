/-
  DERIVED. GIVEN WITH THE SEED: THE CARDS: each row of YteneoapickhpdaaGreatDoorRows.lean that lists a variable, with what it lists TIED to the program's text (the seventh form; the later family's looks); each row that meets fmt, with fmt's text TOLD by the authors' own Lean function (tested against real Go, not proved from fmt's source: count such statements apart). THE CARD IS WHAT COUNTS. Prove the row's statement (the work); the ties are given (YteneoapickhpdaaGreatDoorTie.lean); close each card by the builder's one call (the guide's Derived/Test/ToyasCard.lean, 'card_holds'). Laid BY PROGRAM, IN A SANDBOX (cutbox-door.mjs). By AI agents, Wed Nov 11 2026. No macro, syntax, notation, axiom, sorry.
-/
import Derived.Test.YteneoapickhpdaaGreatDoorRows
import GoSem.ClaimSeven
namespace Go.Proofs.YteneoapickhpdaaGreatDoor
namespace Rows

/-- THE TIED CARD OF 'assaykeep.Reshown'. -/
def reshownCard : Claim7 := { stood := { row := reshownRow, standIns := [], harness := (true, "2771962165d8422248ea583aba1000fbc3a9c8f7a4f11bf4e14aab2f578ca839"), looks := true }, kinds := [], alts := [], laidByText := true, laidKinds := [.data, .data, .data, .sentinel, .sentinel, .data, .data], laidTests := true, laidLooks := .later }
def ReshownCardSaid : Prop := Claim7.holds Tryz.pinned (.plain (OpenSpec.ofChange reshownSpec)) reshownCard

/-- THE TIED CARD OF 'assaykeep.Joined'. -/
def joinedCard : Claim7 := { stood := { row := joinedRow, standIns := [], harness := (true, "2771962165d8422248ea583aba1000fbc3a9c8f7a4f11bf4e14aab2f578ca839"), looks := true }, kinds := [], alts := [], laidByText := true, laidKinds := [.data, .data, .data, .sentinel, .sentinel, .data, .data], laidTests := true, laidLooks := .later }
def JoinedCardSaid : Prop := Claim7.holds Tryz.pinned (.plain (OpenSpec.ofChange joinedSpec)) joinedCard

/-- THE SECOND FORM's CARD OF 'assaykeep.Reshown'. -/
def reshownUptoCard : Claim7 := { stood := { row := reshownUptoRow, standIns := [], harness := (true, "2771962165d8422248ea583aba1000fbc3a9c8f7a4f11bf4e14aab2f578ca839"), looks := true }, kinds := [], alts := [], laidByText := true, laidKinds := [.data, .data, .data, .sentinel, .sentinel, .data, .data], laidTests := true, laidLooks := .later }
def ReshownUptoCardSaid : Prop := Claim7.holds Tryz.pinned (.plain (OpenSpec.upto reshownSpec)) reshownUptoCard

/-- THE SECOND FORM's CARD OF 'assaykeep.Joined'. -/
def joinedUptoCard : Claim7 := { stood := { row := joinedUptoRow, standIns := [], harness := (true, "2771962165d8422248ea583aba1000fbc3a9c8f7a4f11bf4e14aab2f578ca839"), looks := true }, kinds := [], alts := [], laidByText := true, laidKinds := [.data, .data, .data, .sentinel, .sentinel, .data, .data], laidTests := true, laidLooks := .later }
def JoinedUptoCardSaid : Prop := Claim7.holds Tryz.pinned (.plain (OpenSpec.upto joinedSpec)) joinedUptoCard
end Rows
end Go.Proofs.YteneoapickhpdaaGreatDoor
