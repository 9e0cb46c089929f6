/-
  DERIVED. GIVEN WITH THE SEED: THE CARDS: each row of YtdfkjgogdbeokaaGreatDoorRows.lean that lists a variable, with what it lists TIED to the program's text (the seventh form; the later family's looks); each row that meets fmt, with fmt's text TOLD by the authors' own Lean function (tested against real Go, not proved from fmt's source: count such statements apart). THE CARD IS WHAT COUNTS. Prove the row's statement (the work); the ties are given (YtdfkjgogdbeokaaGreatDoorTie.lean); close each card by the builder's one call (the guide's Derived/Test/ToyasCard.lean, 'card_holds'). Laid BY PROGRAM, IN A SANDBOX (cutbox-door.mjs). By AI agents, Wed Nov 11 2026. No macro, syntax, notation, axiom, sorry.
-/
import Derived.Test.YtdfkjgogdbeokaaGreatDoorRows
import GoSem.ClaimSeven
namespace Go.Proofs.YtdfkjgogdbeokaaGreatDoor
namespace Rows

/-- THE TIED CARD OF 'flowlinelaw.Parses'. -/
def parsesCard : Claim7 := { stood := { row := parsesRow, standIns := [], harness := (true, "52bfcd41557eb2eb5fba0e4075a154e2b4be0e7e3cab146c71ef7d69f4b7a0e2"), looks := true }, kinds := [], alts := [], laidByText := true, laidKinds := [.handle, .sentinel, .sentinel, .sentinel, .sentinel, .sentinel, .sentinel, .sentinel, .data], laidTests := true, laidLooks := .later }
def ParsesCardSaid : Prop := Claim7.holds Tryz.pinned (.plain (OpenSpec.ofChange parsesSpec)) parsesCard

/-- THE TIED CARD OF 'flowlinelaw.Generics'. -/
def genericsCard : Claim7 := { stood := { row := genericsRow, standIns := [], harness := (true, "52bfcd41557eb2eb5fba0e4075a154e2b4be0e7e3cab146c71ef7d69f4b7a0e2"), looks := true }, kinds := [], alts := [], laidByText := true, laidKinds := [.handle, .sentinel, .sentinel, .sentinel, .sentinel, .sentinel, .sentinel, .sentinel, .data], laidTests := true, laidLooks := .later }
def GenericsCardSaid : Prop := Claim7.holds Tryz.pinned (.plain (OpenSpec.ofChange genericsSpec)) genericsCard

/-- THE SECOND FORM's CARD OF 'flowlinelaw.Parses'. -/
def parsesUptoCard : Claim7 := { stood := { row := parsesUptoRow, standIns := [], harness := (true, "52bfcd41557eb2eb5fba0e4075a154e2b4be0e7e3cab146c71ef7d69f4b7a0e2"), looks := true }, kinds := [], alts := [], laidByText := true, laidKinds := [.handle, .sentinel, .sentinel, .sentinel, .sentinel, .sentinel, .sentinel, .sentinel, .data], laidTests := true, laidLooks := .later }
def ParsesUptoCardSaid : Prop := Claim7.holds Tryz.pinned (.plain (OpenSpec.upto parsesSpec)) parsesUptoCard

/-- THE SECOND FORM's CARD OF 'flowlinelaw.Generics'. -/
def genericsUptoCard : Claim7 := { stood := { row := genericsUptoRow, standIns := [], harness := (true, "52bfcd41557eb2eb5fba0e4075a154e2b4be0e7e3cab146c71ef7d69f4b7a0e2"), looks := true }, kinds := [], alts := [], laidByText := true, laidKinds := [.handle, .sentinel, .sentinel, .sentinel, .sentinel, .sentinel, .sentinel, .sentinel, .data], laidTests := true, laidLooks := .later }
def GenericsUptoCardSaid : Prop := Claim7.holds Tryz.pinned (.plain (OpenSpec.upto genericsSpec)) genericsUptoCard
end Rows
end Go.Proofs.YtdfkjgogdbeokaaGreatDoor
