/-
  DERIVED. GIVEN WITH THE SEED: THE CARDS: each row of YtfjdogpjckipbaaDoorRows.lean that lists a variable, with what it lists TIED to the program's text (the seventh form; the later family's looks); each row that meets fmt, with fmt's text TOLD by the authors' own Lean function (tested against real Go, not proved from fmt's source: count such statements apart). THE CARD IS WHAT COUNTS. Prove the row's statement (the work); the ties are given (YtfjdogpjckipbaaDoorTie.lean); close each card by the builder's one call (the guide's Derived/Test/ToyasCard.lean, 'card_holds'). Laid BY PROGRAM, IN A SANDBOX (cutbox-door.mjs). By AI agents, Wed Nov 11 2026. No macro, syntax, notation, axiom, sorry.
-/
import Derived.Test.YtfjdogpjckipbaaDoorRows
import GoSem.ClaimSeven
namespace Go.Proofs.YtfjdogpjckipbaaDoor
namespace Rows

/-- THE TIED CARD OF 'flowlinelaw.Names'. -/
def namesCard : Claim7 := { stood := { row := namesRow, standIns := [], harness := (true, "1245dcc9e3e717b277628c760d63ffcad44da3e149d0c55217a7722e1dc6a948"), looks := true }, kinds := [], alts := [], laidByText := true, laidKinds := [.handle, .sentinel, .sentinel, .sentinel, .sentinel, .sentinel, .sentinel, .sentinel], laidTests := true, laidLooks := .later }
def NamesCardSaid : Prop := Claim7.holds Tryd.pinned (.plain (OpenSpec.ofChange namesSpec)) namesCard

/-- THE TIED CARD OF 'flowlinelaw.Stages'. -/
def stagesCard : Claim7 := { stood := { row := stagesRow, standIns := [], harness := (true, "1245dcc9e3e717b277628c760d63ffcad44da3e149d0c55217a7722e1dc6a948"), looks := true }, kinds := [], alts := [], laidByText := true, laidKinds := [.handle, .sentinel, .sentinel, .data], laidTests := true, laidLooks := .later }
def StagesCardSaid : Prop := Claim7.holds Tryd.pinned (.plain (OpenSpec.ofChange stagesSpec)) stagesCard

/-- THE SECOND FORM's CARD OF 'flowlinelaw.Names'. -/
def namesUptoCard : Claim7 := { stood := { row := namesUptoRow, standIns := [], harness := (true, "1245dcc9e3e717b277628c760d63ffcad44da3e149d0c55217a7722e1dc6a948"), looks := true }, kinds := [], alts := [], laidByText := true, laidKinds := [.handle, .sentinel, .sentinel, .sentinel, .sentinel, .sentinel, .sentinel, .sentinel], laidTests := true, laidLooks := .later }
def NamesUptoCardSaid : Prop := Claim7.holds Tryd.pinned (.plain (OpenSpec.upto namesSpec)) namesUptoCard

/-- THE SECOND FORM's CARD OF 'flowlinelaw.Stages'. -/
def stagesUptoCard : Claim7 := { stood := { row := stagesUptoRow, standIns := [], harness := (true, "1245dcc9e3e717b277628c760d63ffcad44da3e149d0c55217a7722e1dc6a948"), looks := true }, kinds := [], alts := [], laidByText := true, laidKinds := [.handle, .sentinel, .sentinel, .data], laidTests := true, laidLooks := .later }
def StagesUptoCardSaid : Prop := Claim7.holds Tryd.pinned (.plain (OpenSpec.upto stagesSpec)) stagesUptoCard
end Rows
end Go.Proofs.YtfjdogpjckipbaaDoor
