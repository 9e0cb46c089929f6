/-
  DERIVED. Items as keys of a map.
-/
import Derived.Test.YtfjdogpjckipbaaGreatDoorKeepW
import Derived.Test.YtfjdogpjckipbaaGreatDoorGivenW
import Derived.WideKeyEntry
import Derived.DeepKeys4
namespace Go.Proofs.YtfjdogpjckipbaaGreatDoor
open Go.RowKit Go.ChangeShapes Go.WideShapes Go.MapKept Go.ChangeMaps Go.WideElems
open Go.WideMaps (KeyLaw)

/-- The item's numbers fit their kinds. -/
structure It.ok (x : It) : Prop where
  k : (Lit.int .i64 x.k).wf = true
  n : (Lit.int .i32 x.n).wf = true
  s : x.s.size ≤ maxLen
  re : (Lit.int .i64 x.re).wf = true
  im : (Lit.int .i64 x.im).wf = true
/-- The item as a value of package flow. -/
def It.v (x : It) : Value := .agg #[.int .i64 x.k, .int .i32 x.n, .string x.s, .int .i64 x.re, .int .i64 x.im]

theorem Tryz.laidOut : laidOutB Tryz.prog = true := by kernel_rfl
theorem Tryz.sizeT : Tryz.prog.types.size = 466 := by kernel_rfl
theorem Tryz.keyLaw : KeyLaw Tryz.prog 47 := deep_law_laid Tryz.laidOut (m := 3) (by omega) (by rw [Tryz.sizeT]; decide) (by kernel_rfl) (by kernel_rfl)
theorem Tryz.keyT : Tryz.prog.keyType 47 = true := by kernel_rfl
theorem Tryz.cellsIt : Tryz.prog.cellsOf 47 = 5 := by kernel_rfl

theorem cInt : Tryz.prog.cellsOf 3 = 1 := by kernel_rfl
theorem cInt32 : Tryz.prog.cellsOf 21 = 1 := by kernel_rfl
theorem cInt64 : Tryz.prog.cellsOf 2 = 1 := by kernel_rfl
theorem cStr : Tryz.prog.cellsOf 9 = 1 := by kernel_rfl
theorem item_formed (x : It) : x.v.formed Tryz.prog 47 = true := by
  simp [It.v, Value.formed, Tryz.cellsIt]
theorem item_key (x : It) (h : x.ok) : ∃ l, keyOf Tryz.prog 47 x.v = some l := by
  obtain ⟨m, hm⟩ : ∃ m, Tryz.prog.types.size = m + 1 := ⟨_, Tryz.sizeT⟩
  unfold keyOf
  simp only [Tryz.underlying47, Tryz.keyT, item_formed, Bool.and_self, if_true, hm]
  unfold Program.keyLits
  simp only [Tryz.underlying47]
  simp [It.v, Value.cells, Tryz.cellsIt, Program.keyLits, Tryz.underlying3, Tryz.underlying21, Tryz.underlying2, Tryz.underlying9, h.k, h.n, h.s, h.re, h.im, cInt, cInt32, cInt64, cStr]
end Go.Proofs.YtfjdogpjckipbaaGreatDoor
