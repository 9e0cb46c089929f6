/-
  DERIVED. Closed facts of the row of Generics, one by one.
-/
import Derived.Test.YtfjdogpjckipbaaGreatDoorRows
import Derived.Test.YtfjdogpjckipbaaGreatDoorChecked
import Derived.JoinedOf
import Derived.KernelRfl
namespace Go.Proofs.YtfjdogpjckipbaaGreatDoor
theorem gInPlace : (Rows.genericsRow.inPlace == Tryz.checked.prog.inPlace 4) = true := by kernel_rfl
theorem gUnfollowed : (Rows.genericsRow.unfollowed == Tryz.checked.prog.unfollowed 4) = true := by kernel_rfl
theorem gRecurses : (Rows.genericsRow.recurses == Tryz.checked.prog.recurses 4) = true := by kernel_rfl
theorem gNamed : (Rows.genericsRow.named == Tryz.checked.prog.varsNamed 4) = true := by kernel_rfl
end Go.Proofs.YtfjdogpjckipbaaGreatDoor
