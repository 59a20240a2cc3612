/-
  DERIVED. GIVEN WITH THE SEED: THE CARDS: each row of YtklidhjlfappnaaGreatDoorRows.lean that lists a variable, with what it lists TIED to the program's text (the seventh form; the later family's looks); each row that meets fmt, with fmt's text TOLD by the authors' own Lean function (tested against real Go, not proved from fmt's source: count such statements apart). THE CARD IS WHAT COUNTS. Prove the row's statement (the work); the ties are given (YtklidhjlfappnaaGreatDoorTie.lean); close each card by the builder's one call (the guide's Derived/Test/ToyasCard.lean, 'card_holds'). Laid BY PROGRAM, IN A SANDBOX (cutbox-door.mjs). By AI agents, Wed Nov 11 2026. No macro, syntax, notation, axiom, sorry.
-/
import Derived.Test.YtklidhjlfappnaaGreatDoorRows
import GoSem.ClaimSeven
namespace Go.Proofs.YtklidhjlfappnaaGreatDoor
namespace Rows

/-- THE TIED CARD OF 'assaylaw.Shows'. -/
def showsCard : Claim7 := { stood := { row := showsRow, standIns := [], harness := (true, "674c455b20cb2b8c44f2a101011fff546b20e85e94b2e868517c0eece3e56094"), looks := true }, kinds := [], alts := [], laidByText := true, laidKinds := [.data, .data, .data, .sentinel, .sentinel, .data, .data], laidTests := true, laidLooks := .later }
def ShowsCardSaid : Prop := Claim7.holds Tryz.pinned (.plain (OpenSpec.ofChange showsSpec)) showsCard

/-- THE TIED CARD OF 'assaykeep.Reshown'. -/
def reshownCard : Claim7 := { stood := { row := reshownRow, standIns := [], harness := (true, "674c455b20cb2b8c44f2a101011fff546b20e85e94b2e868517c0eece3e56094"), looks := true }, kinds := [], alts := [], laidByText := true, laidKinds := [.data, .data, .data, .sentinel, .sentinel, .data, .data], laidTests := true, laidLooks := .later }
def ReshownCardSaid : Prop := Claim7.holds Tryz.pinned (.plain (OpenSpec.ofChange reshownSpec)) reshownCard

/-- THE TIED CARD OF 'assaylaw.Canons'. -/
def canonsCard : Claim7 := { stood := { row := canonsRow, standIns := [], harness := (true, "674c455b20cb2b8c44f2a101011fff546b20e85e94b2e868517c0eece3e56094"), looks := true }, kinds := [], alts := [], laidByText := true, laidKinds := [.data, .data, .data, .sentinel, .sentinel, .data, .data], laidTests := true, laidLooks := .later }
def CanonsCardSaid : Prop := Claim7.holds Tryz.pinned (.plain (OpenSpec.ofChange canonsSpec)) canonsCard

/-- THE TIED CARD OF 'assaykeep.Joined'. -/
def joinedCard : Claim7 := { stood := { row := joinedRow, standIns := [], harness := (true, "674c455b20cb2b8c44f2a101011fff546b20e85e94b2e868517c0eece3e56094"), looks := true }, kinds := [], alts := [], laidByText := true, laidKinds := [.data, .data, .data, .sentinel, .sentinel, .data, .data], laidTests := true, laidLooks := .later }
def JoinedCardSaid : Prop := Claim7.holds Tryz.pinned (.plain (OpenSpec.ofChange joinedSpec)) joinedCard

/-- THE TIED CARD OF 'assaylaw.Scopes'. -/
def scopesCard : Claim7 := { stood := { row := scopesRow, standIns := [], harness := (true, "674c455b20cb2b8c44f2a101011fff546b20e85e94b2e868517c0eece3e56094"), looks := true }, kinds := [], alts := [], laidByText := true, laidKinds := [.data, .data, .data, .sentinel, .sentinel, .data, .data], laidTests := true, laidLooks := .later }
def ScopesCardSaid : Prop := Claim7.holds Tryz.pinned (.plain (OpenSpec.ofChange scopesSpec)) scopesCard

/-- THE SECOND FORM's CARD OF 'assaylaw.Shows'. -/
def showsUptoCard : Claim7 := { stood := { row := showsUptoRow, standIns := [], harness := (true, "674c455b20cb2b8c44f2a101011fff546b20e85e94b2e868517c0eece3e56094"), looks := true }, kinds := [], alts := [], laidByText := true, laidKinds := [.data, .data, .data, .sentinel, .sentinel, .data, .data], laidTests := true, laidLooks := .later }
def ShowsUptoCardSaid : Prop := Claim7.holds Tryz.pinned (.plain (OpenSpec.upto showsSpec)) showsUptoCard

/-- THE SECOND FORM's CARD OF 'assaykeep.Reshown'. -/
def reshownUptoCard : Claim7 := { stood := { row := reshownUptoRow, standIns := [], harness := (true, "674c455b20cb2b8c44f2a101011fff546b20e85e94b2e868517c0eece3e56094"), looks := true }, kinds := [], alts := [], laidByText := true, laidKinds := [.data, .data, .data, .sentinel, .sentinel, .data, .data], laidTests := true, laidLooks := .later }
def ReshownUptoCardSaid : Prop := Claim7.holds Tryz.pinned (.plain (OpenSpec.upto reshownSpec)) reshownUptoCard

/-- THE SECOND FORM's CARD OF 'assaylaw.Canons'. -/
def canonsUptoCard : Claim7 := { stood := { row := canonsUptoRow, standIns := [], harness := (true, "674c455b20cb2b8c44f2a101011fff546b20e85e94b2e868517c0eece3e56094"), looks := true }, kinds := [], alts := [], laidByText := true, laidKinds := [.data, .data, .data, .sentinel, .sentinel, .data, .data], laidTests := true, laidLooks := .later }
def CanonsUptoCardSaid : Prop := Claim7.holds Tryz.pinned (.plain (OpenSpec.upto canonsSpec)) canonsUptoCard

/-- THE SECOND FORM's CARD OF 'assaykeep.Joined'. -/
def joinedUptoCard : Claim7 := { stood := { row := joinedUptoRow, standIns := [], harness := (true, "674c455b20cb2b8c44f2a101011fff546b20e85e94b2e868517c0eece3e56094"), looks := true }, kinds := [], alts := [], laidByText := true, laidKinds := [.data, .data, .data, .sentinel, .sentinel, .data, .data], laidTests := true, laidLooks := .later }
def JoinedUptoCardSaid : Prop := Claim7.holds Tryz.pinned (.plain (OpenSpec.upto joinedSpec)) joinedUptoCard

/-- THE SECOND FORM's CARD OF 'assaylaw.Scopes'. -/
def scopesUptoCard : Claim7 := { stood := { row := scopesUptoRow, standIns := [], harness := (true, "674c455b20cb2b8c44f2a101011fff546b20e85e94b2e868517c0eece3e56094"), looks := true }, kinds := [], alts := [], laidByText := true, laidKinds := [.data, .data, .data, .sentinel, .sentinel, .data, .data], laidTests := true, laidLooks := .later }
def ScopesUptoCardSaid : Prop := Claim7.holds Tryz.pinned (.plain (OpenSpec.upto scopesSpec)) scopesUptoCard
end Rows
end Go.Proofs.YtklidhjlfappnaaGreatDoor
