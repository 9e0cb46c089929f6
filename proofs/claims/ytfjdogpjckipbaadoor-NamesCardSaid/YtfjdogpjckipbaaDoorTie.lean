/-
  DERIVED. GIVEN WITH THE SEED: THE PROGRAM's TIES (one call each: nine closed facts by the kernel) AND EACH ROW's TIE, after the 31st guide's Derived/Test/Toyas{Tie, Card}.lean. No idea stands in it: it is a product of the set-up. Laid BY PROGRAM, IN A SANDBOX (cutbox-door.mjs). By AI agents, Wed Nov 11 2026. No macro, syntax, notation, axiom, sorry.
-/
import Derived.Test.YtfjdogpjckipbaaDoorRows
import Derived.LaidByTextLater
import Derived.SevenTiedAt
import Derived.LaidSub
import Derived.LaidOnce
namespace Go.Proofs.YtfjdogpjckipbaaDoor
open Go
set_option maxRecDepth 100000
theorem seatTie1 : Tryd.prog.laidByTextLater [("errors.errorType", Rows.laid_errors_errorType), ("flowline/flow.ErrSyntax", Rows.laid_flowline_flow_ErrSyntax), ("flowline/flow.ErrLong", Rows.laid_flowline_flow_ErrLong), ("flowline/flow.ErrMany", Rows.laid_flowline_flow_ErrMany), ("flowline/flow.ErrKind", Rows.laid_flowline_flow_ErrKind), ("flowline/flow.ErrBig", Rows.laid_flowline_flow_ErrBig), ("flowline/flow.ErrPanic", Rows.laid_flowline_flow_ErrPanic), ("flowline/flow.ErrNone", Rows.laid_flowline_flow_ErrNone), ("flowline/flow.patterns", Rows.laid_flowline_flow_patterns)] [.handle, .sentinel, .sentinel, .sentinel, .sentinel, .sentinel, .sentinel, .sentinel, .data] true :=
  Program.laidByTextLater_by_one 175 8 85 (by kernel_rfl) (by kernel_rfl) (by kernel_rfl) (by kernel_rfl) (by kernel_rfl) (by kernel_rfl) (fun _ _ => by kernel_rfl)
theorem noOwnUnsafe : Tryd.pinned.checked.prog.headLifts.contains "ownunsafe" = false := by kernel_rfl
theorem tie : Tryd.prog.laidByTextLater [("errors.errorType", Rows.laid_errors_errorType), ("flowline/flow.ErrSyntax", Rows.laid_flowline_flow_ErrSyntax), ("flowline/flow.ErrLong", Rows.laid_flowline_flow_ErrLong), ("flowline/flow.ErrMany", Rows.laid_flowline_flow_ErrMany), ("flowline/flow.ErrKind", Rows.laid_flowline_flow_ErrKind), ("flowline/flow.ErrBig", Rows.laid_flowline_flow_ErrBig), ("flowline/flow.ErrPanic", Rows.laid_flowline_flow_ErrPanic), ("flowline/flow.ErrNone", Rows.laid_flowline_flow_ErrNone)] [.handle, .sentinel, .sentinel, .sentinel, .sentinel, .sentinel, .sentinel, .sentinel] true :=
  Program.laidByTextLater.sub seatTie1 ["errors.errorType", "flowline/flow.ErrSyntax", "flowline/flow.ErrLong", "flowline/flow.ErrMany", "flowline/flow.ErrKind", "flowline/flow.ErrBig", "flowline/flow.ErrPanic", "flowline/flow.ErrNone"] (by kernel_rfl) (by kernel_rfl)
theorem names_row_tie : Rows.namesRow.laidByTextAt .later Tryd.pinned [.handle, .sentinel, .sentinel, .sentinel, .sentinel, .sentinel, .sentinel, .sentinel] true :=
  OpenClaim.laidByTextAt_later rfl rfl tie noOwnUnsafe
theorem tie2 : Tryd.prog.laidByTextLater [("errors.errorType", Rows.laid_errors_errorType), ("flowline/flow.ErrLong", Rows.laid_flowline_flow_ErrLong), ("flowline/flow.ErrMany", Rows.laid_flowline_flow_ErrMany), ("flowline/flow.patterns", Rows.laid_flowline_flow_patterns)] [.handle, .sentinel, .sentinel, .data] true :=
  Program.laidByTextLater.sub seatTie1 ["errors.errorType", "flowline/flow.ErrLong", "flowline/flow.ErrMany", "flowline/flow.patterns"] (by kernel_rfl) (by kernel_rfl)
theorem stages_row_tie : Rows.stagesRow.laidByTextAt .later Tryd.pinned [.handle, .sentinel, .sentinel, .data] true :=
  OpenClaim.laidByTextAt_later rfl rfl tie2 noOwnUnsafe
theorem namesUpto_row_tie : Rows.namesUptoRow.laidByTextAt .later Tryd.pinned [.handle, .sentinel, .sentinel, .sentinel, .sentinel, .sentinel, .sentinel, .sentinel] true :=
  OpenClaim.laidByTextAt_later rfl rfl tie noOwnUnsafe
theorem stagesUpto_row_tie : Rows.stagesUptoRow.laidByTextAt .later Tryd.pinned [.handle, .sentinel, .sentinel, .data] true :=
  OpenClaim.laidByTextAt_later rfl rfl tie2 noOwnUnsafe
end Go.Proofs.YtfjdogpjckipbaaDoor
