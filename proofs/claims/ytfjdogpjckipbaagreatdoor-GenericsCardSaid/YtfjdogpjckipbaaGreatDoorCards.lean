/-
  DERIVED. GIVEN WITH THE SEED: THE CARDS: each row of YtfjdogpjckipbaaGreatDoorRows.lean that lists a variable, with what it lists TIED to the program's text (the seventh form; the later family's looks); each row that meets fmt, with fmt's text TOLD by the authors' own Lean function (tested against real Go, not proved from fmt's source: count such statements apart). THE CARD IS WHAT COUNTS. Prove the row's statement (the work); the ties are given (YtfjdogpjckipbaaGreatDoorTie.lean); close each card by the builder's one call (the guide's Derived/Test/ToyasCard.lean, 'card_holds'). Laid BY PROGRAM, IN A SANDBOX (cutbox-door.mjs). By AI agents, Wed Nov 11 2026. No macro, syntax, notation, axiom, sorry.
-/
import Derived.Test.YtfjdogpjckipbaaGreatDoorRows
import GoSem.ClaimSeven
namespace Go.Proofs.YtfjdogpjckipbaaGreatDoor
namespace Rows

/-- THE TIED CARD OF 'flowlinelaw.Parses'. -/
def parsesCard : Claim7 := { stood := { row := parsesRow, standIns := [], harness := (true, "a6dd93421346aec5d91bfdfad0f657d216ba31ab7ce725db584c1db0844d0806"), looks := true }, kinds := [], alts := [], goes := true, laidByText := true, laidKinds := [.handle, .sentinel, .sentinel, .sentinel, .sentinel, .data], laidTests := true, laidLooks := .later }
def ParsesCardSaid : Prop := Claim7.holds Tryz.pinned (.plain (OpenSpec.ofChange parsesSpec)) parsesCard

/-- THE TIED CARD OF 'flowlinelaw.Generics'. -/
def genericsCard : Claim7 := { stood := { row := genericsRow, standIns := [], harness := (true, "a6dd93421346aec5d91bfdfad0f657d216ba31ab7ce725db584c1db0844d0806"), looks := true }, kinds := [], alts := [], goes := true, laidByText := true, laidKinds := [.handle, .sentinel, .sentinel, .sentinel, .sentinel, .data], laidTests := true, laidLooks := .later }
def GenericsCardSaid : Prop := Claim7.holds Tryz.pinned (.plain (OpenSpec.ofChange genericsSpec)) genericsCard

/-- THE TIED CARD OF 'flowlinelaw.Runs'. -/
def runsCard : Claim7 := { stood := { row := runsRow, standIns := [], harness := (true, "a6dd93421346aec5d91bfdfad0f657d216ba31ab7ce725db584c1db0844d0806"), looks := true }, kinds := [], alts := [], goes := true, laidByText := true, laidKinds := [.handle, .sentinel, .sentinel, .sentinel, .sentinel, .data], laidTests := true, laidLooks := .later }
def RunsCardSaid : Prop := Claim7.holds Tryz.pinned (.plain (OpenSpec.ofChange runsSpec)) runsCard

/-- THE TIED CARD OF 'flowlinelaw.Chained'. -/
def chainedCard : Claim7 := { stood := { row := chainedRow, standIns := [], harness := (true, "a6dd93421346aec5d91bfdfad0f657d216ba31ab7ce725db584c1db0844d0806"), looks := true }, kinds := [], alts := [], goes := true, laidByText := true, laidKinds := [.handle, .sentinel, .sentinel, .sentinel, .data], laidTests := true, laidLooks := .later }
def ChainedCardSaid : Prop := Claim7.holds Tryz.pinned (.plain (OpenSpec.ofChange chainedSpec)) chainedCard

/-- THE TIED CARD OF 'flowlinelaw.Waves'. -/
def wavesCard : Claim7 := { stood := { row := wavesRow, standIns := [], harness := (true, "a6dd93421346aec5d91bfdfad0f657d216ba31ab7ce725db584c1db0844d0806"), looks := true }, kinds := [], alts := [], goes := true, laidByText := true, laidKinds := [.handle, .sentinel, .sentinel, .sentinel, .data], laidTests := true, laidLooks := .later }
def WavesCardSaid : Prop := Claim7.holds Tryz.pinned (.plain (OpenSpec.ofChange wavesSpec)) wavesCard

/-- THE TIED CARD OF 'flowlinelaw.Words'. -/
def wordsCard : Claim7 := { stood := { row := wordsRow, standIns := [], harness := (true, "a6dd93421346aec5d91bfdfad0f657d216ba31ab7ce725db584c1db0844d0806"), looks := true }, kinds := [], alts := [], goes := true, laidByText := true, laidKinds := [.handle, .sentinel, .sentinel, .sentinel, .data], laidTests := true, laidLooks := .later }
def WordsCardSaid : Prop := Claim7.holds Tryz.pinned (.plain (OpenSpec.ofChange wordsSpec)) wordsCard

/-- THE TIED CARD OF 'flowlinelaw.SideBySide'. -/
def sideBySideCard : Claim7 := { stood := { row := sideBySideRow, standIns := [], harness := (true, "a6dd93421346aec5d91bfdfad0f657d216ba31ab7ce725db584c1db0844d0806"), looks := true }, kinds := [], alts := [], goes := true, laidByText := true, laidKinds := [.handle, .sentinel, .sentinel, .sentinel, .sentinel, .data], laidTests := true, laidLooks := .later }
def SideBySideCardSaid : Prop := Claim7.holds Tryz.pinned (.plain (OpenSpec.ofChange sideBySideSpec)) sideBySideCard

/-- THE TIED CARD OF 'flowlinelaw.Sides'. -/
def sidesCard : Claim7 := { stood := { row := sidesRow, standIns := [], harness := (true, "a6dd93421346aec5d91bfdfad0f657d216ba31ab7ce725db584c1db0844d0806"), looks := true }, kinds := [], alts := [], goes := true, laidByText := true, laidKinds := [.handle, .sentinel, .sentinel, .sentinel, .data], laidTests := true, laidLooks := .later }
def SidesCardSaid : Prop := Claim7.holds Tryz.pinned (.plain (OpenSpec.ofChange sidesSpec)) sidesCard

/-- THE TIED CARD OF 'flowlinelaw.Loops'. -/
def loopsCard : Claim7 := { stood := { row := loopsRow, standIns := [], harness := (true, "a6dd93421346aec5d91bfdfad0f657d216ba31ab7ce725db584c1db0844d0806"), looks := true }, kinds := [], alts := [], goes := true, laidByText := true, laidKinds := [.handle, .sentinel, .sentinel, .sentinel, .sentinel, .data], laidTests := true, laidLooks := .later }
def LoopsCardSaid : Prop := Claim7.holds Tryz.pinned (.plain (OpenSpec.ofChange loopsSpec)) loopsCard

/-- THE TIED CARD OF 'flowlinelaw.Errors'. -/
def errorsCard : Claim7 := { stood := { row := errorsRow, standIns := [], harness := (true, "a6dd93421346aec5d91bfdfad0f657d216ba31ab7ce725db584c1db0844d0806"), looks := true }, kinds := [], alts := [], goes := true, laidByText := true, laidKinds := [.handle, .sentinel, .sentinel, .sentinel, .sentinel, .data], laidTests := true, laidLooks := .later }
def ErrorsCardSaid : Prop := Claim7.holds Tryz.pinned (.plain (OpenSpec.ofChange errorsSpec)) errorsCard

/-- THE SECOND FORM's CARD OF 'flowlinelaw.Parses'. -/
def parsesUptoCard : Claim7 := { stood := { row := parsesUptoRow, standIns := [], harness := (true, "a6dd93421346aec5d91bfdfad0f657d216ba31ab7ce725db584c1db0844d0806"), looks := true }, kinds := [], alts := [], goes := true, laidByText := true, laidKinds := [.handle, .sentinel, .sentinel, .sentinel, .sentinel, .data], laidTests := true, laidLooks := .later }
def ParsesUptoCardSaid : Prop := Claim7.holds Tryz.pinned (.plain (OpenSpec.upto parsesSpec)) parsesUptoCard

/-- THE SECOND FORM's CARD OF 'flowlinelaw.Generics'. -/
def genericsUptoCard : Claim7 := { stood := { row := genericsUptoRow, standIns := [], harness := (true, "a6dd93421346aec5d91bfdfad0f657d216ba31ab7ce725db584c1db0844d0806"), looks := true }, kinds := [], alts := [], goes := true, laidByText := true, laidKinds := [.handle, .sentinel, .sentinel, .sentinel, .sentinel, .data], laidTests := true, laidLooks := .later }
def GenericsUptoCardSaid : Prop := Claim7.holds Tryz.pinned (.plain (OpenSpec.upto genericsSpec)) genericsUptoCard

/-- THE SECOND FORM's CARD OF 'flowlinelaw.Runs'. -/
def runsUptoCard : Claim7 := { stood := { row := runsUptoRow, standIns := [], harness := (true, "a6dd93421346aec5d91bfdfad0f657d216ba31ab7ce725db584c1db0844d0806"), looks := true }, kinds := [], alts := [], goes := true, laidByText := true, laidKinds := [.handle, .sentinel, .sentinel, .sentinel, .sentinel, .data], laidTests := true, laidLooks := .later }
def RunsUptoCardSaid : Prop := Claim7.holds Tryz.pinned (.plain (OpenSpec.upto runsSpec)) runsUptoCard

/-- THE SECOND FORM's CARD OF 'flowlinelaw.Chained'. -/
def chainedUptoCard : Claim7 := { stood := { row := chainedUptoRow, standIns := [], harness := (true, "a6dd93421346aec5d91bfdfad0f657d216ba31ab7ce725db584c1db0844d0806"), looks := true }, kinds := [], alts := [], goes := true, laidByText := true, laidKinds := [.handle, .sentinel, .sentinel, .sentinel, .data], laidTests := true, laidLooks := .later }
def ChainedUptoCardSaid : Prop := Claim7.holds Tryz.pinned (.plain (OpenSpec.upto chainedSpec)) chainedUptoCard

/-- THE SECOND FORM's CARD OF 'flowlinelaw.Waves'. -/
def wavesUptoCard : Claim7 := { stood := { row := wavesUptoRow, standIns := [], harness := (true, "a6dd93421346aec5d91bfdfad0f657d216ba31ab7ce725db584c1db0844d0806"), looks := true }, kinds := [], alts := [], goes := true, laidByText := true, laidKinds := [.handle, .sentinel, .sentinel, .sentinel, .data], laidTests := true, laidLooks := .later }
def WavesUptoCardSaid : Prop := Claim7.holds Tryz.pinned (.plain (OpenSpec.upto wavesSpec)) wavesUptoCard

/-- THE SECOND FORM's CARD OF 'flowlinelaw.Words'. -/
def wordsUptoCard : Claim7 := { stood := { row := wordsUptoRow, standIns := [], harness := (true, "a6dd93421346aec5d91bfdfad0f657d216ba31ab7ce725db584c1db0844d0806"), looks := true }, kinds := [], alts := [], goes := true, laidByText := true, laidKinds := [.handle, .sentinel, .sentinel, .sentinel, .data], laidTests := true, laidLooks := .later }
def WordsUptoCardSaid : Prop := Claim7.holds Tryz.pinned (.plain (OpenSpec.upto wordsSpec)) wordsUptoCard

/-- THE SECOND FORM's CARD OF 'flowlinelaw.SideBySide'. -/
def sideBySideUptoCard : Claim7 := { stood := { row := sideBySideUptoRow, standIns := [], harness := (true, "a6dd93421346aec5d91bfdfad0f657d216ba31ab7ce725db584c1db0844d0806"), looks := true }, kinds := [], alts := [], goes := true, laidByText := true, laidKinds := [.handle, .sentinel, .sentinel, .sentinel, .sentinel, .data], laidTests := true, laidLooks := .later }
def SideBySideUptoCardSaid : Prop := Claim7.holds Tryz.pinned (.plain (OpenSpec.upto sideBySideSpec)) sideBySideUptoCard

/-- THE SECOND FORM's CARD OF 'flowlinelaw.Sides'. -/
def sidesUptoCard : Claim7 := { stood := { row := sidesUptoRow, standIns := [], harness := (true, "a6dd93421346aec5d91bfdfad0f657d216ba31ab7ce725db584c1db0844d0806"), looks := true }, kinds := [], alts := [], goes := true, laidByText := true, laidKinds := [.handle, .sentinel, .sentinel, .sentinel, .data], laidTests := true, laidLooks := .later }
def SidesUptoCardSaid : Prop := Claim7.holds Tryz.pinned (.plain (OpenSpec.upto sidesSpec)) sidesUptoCard

/-- THE SECOND FORM's CARD OF 'flowlinelaw.Loops'. -/
def loopsUptoCard : Claim7 := { stood := { row := loopsUptoRow, standIns := [], harness := (true, "a6dd93421346aec5d91bfdfad0f657d216ba31ab7ce725db584c1db0844d0806"), looks := true }, kinds := [], alts := [], goes := true, laidByText := true, laidKinds := [.handle, .sentinel, .sentinel, .sentinel, .sentinel, .data], laidTests := true, laidLooks := .later }
def LoopsUptoCardSaid : Prop := Claim7.holds Tryz.pinned (.plain (OpenSpec.upto loopsSpec)) loopsUptoCard

/-- THE SECOND FORM's CARD OF 'flowlinelaw.Errors'. -/
def errorsUptoCard : Claim7 := { stood := { row := errorsUptoRow, standIns := [], harness := (true, "a6dd93421346aec5d91bfdfad0f657d216ba31ab7ce725db584c1db0844d0806"), looks := true }, kinds := [], alts := [], goes := true, laidByText := true, laidKinds := [.handle, .sentinel, .sentinel, .sentinel, .sentinel, .data], laidTests := true, laidLooks := .later }
def ErrorsUptoCardSaid : Prop := Claim7.holds Tryz.pinned (.plain (OpenSpec.upto errorsSpec)) errorsUptoCard
end Rows
end Go.Proofs.YtfjdogpjckipbaaGreatDoor
