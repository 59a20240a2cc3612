/-
  DERIVED. GIVEN WITH THE SEED: THE CARDS: each row of YtfnkchdeheeiiaaGreatDoorRows.lean that lists a variable, with what it lists TIED to the program's text (the seventh form; the later family's looks); each row that meets fmt, with fmt's text TOLD by the authors' own Lean function (tested against real Go, not proved from fmt's source: count such statements apart). THE CARD IS WHAT COUNTS. Prove the row's statement (the work); the ties are given (YtfnkchdeheeiiaaGreatDoorTie.lean); close each card by the builder's one call (the guide's Derived/Test/ToyasCard.lean, 'card_holds'). Laid BY PROGRAM, IN A SANDBOX (cutbox-door.mjs). By AI agents, Wed Nov 11 2026. No macro, syntax, notation, axiom, sorry.
-/
import Derived.Test.YtfnkchdeheeiiaaGreatDoorRows
import GoSem.ClaimSeven
namespace Go.Proofs.YtfnkchdeheeiiaaGreatDoor
namespace Rows

/-- THE TIED CARD OF 'assaykeep.Agree'. -/
def agreeCard : Claim7 := { stood := { row := agreeRow, standIns := [], harness := (true, "9a59ffedb01e573ed3fd9046d2f15cf8187bc4e196f5b9b926069be6a7f78112"), looks := true }, kinds := [], alts := [], laidByText := true, laidKinds := [.data, .data, .data, .sentinel, .sentinel, .data, .data], laidTests := true, laidLooks := .later }
def AgreeCardSaid : Prop := Claim7.holds Tryz.pinned (.plain (OpenSpec.ofChange agreeSpec)) agreeCard

/-- THE TIED CARD OF 'assaykeep.Renamed'. -/
def renamedCard : Claim7 := { stood := { row := renamedRow, standIns := [], harness := (true, "9a59ffedb01e573ed3fd9046d2f15cf8187bc4e196f5b9b926069be6a7f78112"), looks := true }, kinds := [], alts := [], laidByText := true, laidKinds := [.data, .data, .data, .sentinel, .sentinel, .data, .data], laidTests := true, laidLooks := .later }
def RenamedCardSaid : Prop := Claim7.holds Tryz.pinned (.plain (OpenSpec.ofChange renamedSpec)) renamedCard

/-- THE TIED CARD OF 'assaykeep.Retyped'. -/
def retypedCard : Claim7 := { stood := { row := retypedRow, standIns := [], harness := (true, "9a59ffedb01e573ed3fd9046d2f15cf8187bc4e196f5b9b926069be6a7f78112"), looks := true }, kinds := [], alts := [], laidByText := true, laidKinds := [.data, .data, .data, .sentinel, .sentinel, .data, .data], laidTests := true, laidLooks := .later }
def RetypedCardSaid : Prop := Claim7.holds Tryz.pinned (.plain (OpenSpec.ofChange retypedSpec)) retypedCard

/-- THE TIED CARD OF 'assaykeep.Principal'. -/
def principalCard : Claim7 := { stood := { row := principalRow, standIns := [], harness := (true, "9a59ffedb01e573ed3fd9046d2f15cf8187bc4e196f5b9b926069be6a7f78112"), looks := true }, kinds := [], alts := [], laidByText := true, laidKinds := [.data, .data, .data, .sentinel, .sentinel, .data, .data], laidTests := true, laidLooks := .later }
def PrincipalCardSaid : Prop := Claim7.holds Tryz.pinned (.plain (OpenSpec.ofChange principalSpec)) principalCard

/-- THE TIED CARD OF 'assaykeep.Told'. -/
def toldCard : Claim7 := { stood := { row := toldRow, standIns := [], harness := (true, "9a59ffedb01e573ed3fd9046d2f15cf8187bc4e196f5b9b926069be6a7f78112"), looks := true }, kinds := [], alts := [], laidByText := true, laidKinds := [.data, .data, .data, .sentinel, .sentinel, .data, .data], laidTests := true, laidLooks := .later }
def ToldCardSaid : Prop := Claim7.holds Tryz.pinned (.plain (OpenSpec.ofChange toldSpec)) toldCard

/-- THE TIED CARD OF 'assaykeep.Counted'. -/
def countedCard : Claim7 := { stood := { row := countedRow, standIns := [], harness := (true, "9a59ffedb01e573ed3fd9046d2f15cf8187bc4e196f5b9b926069be6a7f78112"), looks := true }, kinds := [], alts := [], laidByText := true, laidKinds := [.data, .data, .data, .sentinel, .sentinel, .data, .data], laidTests := true, laidLooks := .later }
def CountedCardSaid : Prop := Claim7.holds Tryz.pinned (.plain (OpenSpec.ofChange countedSpec)) countedCard

/-- THE TIED CARD OF 'assaykeep.Closed'. -/
def closedCard : Claim7 := { stood := { row := closedRow, standIns := [], harness := (true, "9a59ffedb01e573ed3fd9046d2f15cf8187bc4e196f5b9b926069be6a7f78112"), looks := true }, kinds := [], alts := [], laidByText := true, laidKinds := [.data, .data, .data, .sentinel, .sentinel, .data, .data], laidTests := true, laidLooks := .later }
def ClosedCardSaid : Prop := Claim7.holds Tryz.pinned (.plain (OpenSpec.ofChange closedSpec)) closedCard

/-- THE SECOND FORM's CARD OF 'assaykeep.Agree'. -/
def agreeUptoCard : Claim7 := { stood := { row := agreeUptoRow, standIns := [], harness := (true, "9a59ffedb01e573ed3fd9046d2f15cf8187bc4e196f5b9b926069be6a7f78112"), looks := true }, kinds := [], alts := [], laidByText := true, laidKinds := [.data, .data, .data, .sentinel, .sentinel, .data, .data], laidTests := true, laidLooks := .later }
def AgreeUptoCardSaid : Prop := Claim7.holds Tryz.pinned (.plain (OpenSpec.upto agreeSpec)) agreeUptoCard

/-- THE SECOND FORM's CARD OF 'assaykeep.Renamed'. -/
def renamedUptoCard : Claim7 := { stood := { row := renamedUptoRow, standIns := [], harness := (true, "9a59ffedb01e573ed3fd9046d2f15cf8187bc4e196f5b9b926069be6a7f78112"), looks := true }, kinds := [], alts := [], laidByText := true, laidKinds := [.data, .data, .data, .sentinel, .sentinel, .data, .data], laidTests := true, laidLooks := .later }
def RenamedUptoCardSaid : Prop := Claim7.holds Tryz.pinned (.plain (OpenSpec.upto renamedSpec)) renamedUptoCard

/-- THE SECOND FORM's CARD OF 'assaykeep.Retyped'. -/
def retypedUptoCard : Claim7 := { stood := { row := retypedUptoRow, standIns := [], harness := (true, "9a59ffedb01e573ed3fd9046d2f15cf8187bc4e196f5b9b926069be6a7f78112"), looks := true }, kinds := [], alts := [], laidByText := true, laidKinds := [.data, .data, .data, .sentinel, .sentinel, .data, .data], laidTests := true, laidLooks := .later }
def RetypedUptoCardSaid : Prop := Claim7.holds Tryz.pinned (.plain (OpenSpec.upto retypedSpec)) retypedUptoCard

/-- THE SECOND FORM's CARD OF 'assaykeep.Principal'. -/
def principalUptoCard : Claim7 := { stood := { row := principalUptoRow, standIns := [], harness := (true, "9a59ffedb01e573ed3fd9046d2f15cf8187bc4e196f5b9b926069be6a7f78112"), looks := true }, kinds := [], alts := [], laidByText := true, laidKinds := [.data, .data, .data, .sentinel, .sentinel, .data, .data], laidTests := true, laidLooks := .later }
def PrincipalUptoCardSaid : Prop := Claim7.holds Tryz.pinned (.plain (OpenSpec.upto principalSpec)) principalUptoCard

/-- THE SECOND FORM's CARD OF 'assaykeep.Told'. -/
def toldUptoCard : Claim7 := { stood := { row := toldUptoRow, standIns := [], harness := (true, "9a59ffedb01e573ed3fd9046d2f15cf8187bc4e196f5b9b926069be6a7f78112"), looks := true }, kinds := [], alts := [], laidByText := true, laidKinds := [.data, .data, .data, .sentinel, .sentinel, .data, .data], laidTests := true, laidLooks := .later }
def ToldUptoCardSaid : Prop := Claim7.holds Tryz.pinned (.plain (OpenSpec.upto toldSpec)) toldUptoCard

/-- THE SECOND FORM's CARD OF 'assaykeep.Counted'. -/
def countedUptoCard : Claim7 := { stood := { row := countedUptoRow, standIns := [], harness := (true, "9a59ffedb01e573ed3fd9046d2f15cf8187bc4e196f5b9b926069be6a7f78112"), looks := true }, kinds := [], alts := [], laidByText := true, laidKinds := [.data, .data, .data, .sentinel, .sentinel, .data, .data], laidTests := true, laidLooks := .later }
def CountedUptoCardSaid : Prop := Claim7.holds Tryz.pinned (.plain (OpenSpec.upto countedSpec)) countedUptoCard

/-- THE SECOND FORM's CARD OF 'assaykeep.Closed'. -/
def closedUptoCard : Claim7 := { stood := { row := closedUptoRow, standIns := [], harness := (true, "9a59ffedb01e573ed3fd9046d2f15cf8187bc4e196f5b9b926069be6a7f78112"), looks := true }, kinds := [], alts := [], laidByText := true, laidKinds := [.data, .data, .data, .sentinel, .sentinel, .data, .data], laidTests := true, laidLooks := .later }
def ClosedUptoCardSaid : Prop := Claim7.holds Tryz.pinned (.plain (OpenSpec.upto closedSpec)) closedUptoCard
end Rows
end Go.Proofs.YtfnkchdeheeiiaaGreatDoor
