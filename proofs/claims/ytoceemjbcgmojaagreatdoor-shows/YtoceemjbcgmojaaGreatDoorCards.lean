/-
  DERIVED. GIVEN WITH THE SEED: THE CARDS: each row of YtoceemjbcgmojaaGreatDoorRows.lean that lists a variable, with what it lists TIED to the program's text (the seventh form; the later family's looks); each row that meets fmt, with fmt's text TOLD by the authors' own Lean function (tested against real Go, not proved from fmt's source: count such statements apart). THE CARD IS WHAT COUNTS. Prove the row's statement (the work); the ties are given (YtoceemjbcgmojaaGreatDoorTie.lean); close each card by the builder's one call (the guide's Derived/Test/ToyasCard.lean, 'card_holds'). Laid BY PROGRAM, IN A SANDBOX (cutbox-door.mjs). By AI agents, Wed Nov 11 2026. No macro, syntax, notation, axiom, sorry.
-/
import Derived.Test.YtoceemjbcgmojaaGreatDoorRows
import GoSem.ClaimSeven
namespace Go.Proofs.YtoceemjbcgmojaaGreatDoor
namespace Rows

/-- THE TIED CARD OF 'assaylaw.Shows'. -/
def showsCard : Claim7 := { stood := { row := showsRow, standIns := [], harness := (true, "c30072a3efd946bd6d60e455ec541cfaa6af16bfc3ba86a979c1e0d64c20e27e"), looks := true }, kinds := [], alts := [], laidByText := true, laidKinds := [.data, .data, .sentinel, .sentinel, .data, .data, .data], laidTests := true, laidLooks := .later }
def ShowsCardSaid : Prop := Claim7.holds Tryz.pinned (.plain (OpenSpec.ofChange showsSpec)) showsCard

/-- THE TIED CARD OF 'assaylaw.Scopes'. -/
def scopesCard : Claim7 := { stood := { row := scopesRow, standIns := [], harness := (true, "c30072a3efd946bd6d60e455ec541cfaa6af16bfc3ba86a979c1e0d64c20e27e"), looks := true }, kinds := [], alts := [], laidByText := true, laidKinds := [.data, .data, .sentinel, .sentinel, .data, .data, .data], laidTests := true, laidLooks := .later }
def ScopesCardSaid : Prop := Claim7.holds Tryz.pinned (.plain (OpenSpec.ofChange scopesSpec)) scopesCard

/-- THE TIED CARD OF 'assaylaw.Infers'. -/
def infersCard : Claim7 := { stood := { row := infersRow, standIns := [], harness := (true, "c30072a3efd946bd6d60e455ec541cfaa6af16bfc3ba86a979c1e0d64c20e27e"), looks := true }, kinds := [], alts := [], laidByText := true, laidKinds := [.data, .data, .sentinel, .sentinel, .data, .data, .data], laidTests := true, laidLooks := .later }
def InfersCardSaid : Prop := Claim7.holds Tryz.pinned (.plain (OpenSpec.ofChange infersSpec)) infersCard

/-- THE TIED CARD OF 'assaylaw.Checks'. -/
def checksCard : Claim7 := { stood := { row := checksRow, standIns := [], harness := (true, "c30072a3efd946bd6d60e455ec541cfaa6af16bfc3ba86a979c1e0d64c20e27e"), looks := true }, kinds := [], alts := [], laidByText := true, laidKinds := [.data, .data, .sentinel, .sentinel, .data, .data, .data], laidTests := true, laidLooks := .later }
def ChecksCardSaid : Prop := Claim7.holds Tryz.pinned (.plain (OpenSpec.ofChange checksSpec)) checksCard

/-- THE TIED CARD OF 'assaylaw.All'. -/
def allCard : Claim7 := { stood := { row := allRow, standIns := [], harness := (true, "c30072a3efd946bd6d60e455ec541cfaa6af16bfc3ba86a979c1e0d64c20e27e"), looks := true }, kinds := [], alts := [], laidByText := true, laidKinds := [.data, .data, .sentinel, .sentinel, .data, .data, .data], laidTests := true, laidLooks := .later }
def AllCardSaid : Prop := Claim7.holds Tryz.pinned (.plain (OpenSpec.ofChange allSpec)) allCard

/-- THE SECOND FORM's CARD OF 'assaylaw.Shows'. -/
def showsUptoCard : Claim7 := { stood := { row := showsUptoRow, standIns := [], harness := (true, "c30072a3efd946bd6d60e455ec541cfaa6af16bfc3ba86a979c1e0d64c20e27e"), looks := true }, kinds := [], alts := [], laidByText := true, laidKinds := [.data, .data, .sentinel, .sentinel, .data, .data, .data], laidTests := true, laidLooks := .later }
def ShowsUptoCardSaid : Prop := Claim7.holds Tryz.pinned (.plain (OpenSpec.upto showsSpec)) showsUptoCard

/-- THE SECOND FORM's CARD OF 'assaylaw.Scopes'. -/
def scopesUptoCard : Claim7 := { stood := { row := scopesUptoRow, standIns := [], harness := (true, "c30072a3efd946bd6d60e455ec541cfaa6af16bfc3ba86a979c1e0d64c20e27e"), looks := true }, kinds := [], alts := [], laidByText := true, laidKinds := [.data, .data, .sentinel, .sentinel, .data, .data, .data], laidTests := true, laidLooks := .later }
def ScopesUptoCardSaid : Prop := Claim7.holds Tryz.pinned (.plain (OpenSpec.upto scopesSpec)) scopesUptoCard

/-- THE SECOND FORM's CARD OF 'assaylaw.Infers'. -/
def infersUptoCard : Claim7 := { stood := { row := infersUptoRow, standIns := [], harness := (true, "c30072a3efd946bd6d60e455ec541cfaa6af16bfc3ba86a979c1e0d64c20e27e"), looks := true }, kinds := [], alts := [], laidByText := true, laidKinds := [.data, .data, .sentinel, .sentinel, .data, .data, .data], laidTests := true, laidLooks := .later }
def InfersUptoCardSaid : Prop := Claim7.holds Tryz.pinned (.plain (OpenSpec.upto infersSpec)) infersUptoCard

/-- THE SECOND FORM's CARD OF 'assaylaw.Checks'. -/
def checksUptoCard : Claim7 := { stood := { row := checksUptoRow, standIns := [], harness := (true, "c30072a3efd946bd6d60e455ec541cfaa6af16bfc3ba86a979c1e0d64c20e27e"), looks := true }, kinds := [], alts := [], laidByText := true, laidKinds := [.data, .data, .sentinel, .sentinel, .data, .data, .data], laidTests := true, laidLooks := .later }
def ChecksUptoCardSaid : Prop := Claim7.holds Tryz.pinned (.plain (OpenSpec.upto checksSpec)) checksUptoCard

/-- THE SECOND FORM's CARD OF 'assaylaw.All'. -/
def allUptoCard : Claim7 := { stood := { row := allUptoRow, standIns := [], harness := (true, "c30072a3efd946bd6d60e455ec541cfaa6af16bfc3ba86a979c1e0d64c20e27e"), looks := true }, kinds := [], alts := [], laidByText := true, laidKinds := [.data, .data, .sentinel, .sentinel, .data, .data, .data], laidTests := true, laidLooks := .later }
def AllUptoCardSaid : Prop := Claim7.holds Tryz.pinned (.plain (OpenSpec.upto allSpec)) allUptoCard
end Rows
end Go.Proofs.YtoceemjbcgmojaaGreatDoor
