/-
  DERIVED. The code's table of names.
-/
import Derived.Test.YtdfkjgogdbeokaaGreatDoorCdWord
import Derived.Deep.MidRow
namespace Go.Proofs.YtdfkjgogdbeokaaGreatDoor
open Go.RowKit
set_option linter.unusedVariables false

/-- The code's table: the names, the forms, the bounds. -/
def patL : List (ByteArray × Nat × Int × Int) :=
  [(⟨#[97, 100, 100]⟩, 1, -999, 999), (⟨#[109, 117, 108]⟩, 1, -999, 999), (⟨#[101, 118, 101, 110]⟩, 0, 0, 0), (⟨#[105, 110, 116, 115]⟩, 0, 0, 0), (⟨#[119, 111, 114, 100, 115]⟩, 0, 0, 0), (⟨#[119, 97, 118, 101, 115]⟩, 0, 0, 0), (⟨#[116, 117, 114, 110]⟩, 0, 0, 0), (⟨#[108, 101, 110]⟩, 0, 0, 0), (⟨#[112, 97, 105, 114]⟩, 0, 0, 0), (⟨#[115, 112, 105, 110]⟩, 1, -999, 999), (⟨#[110, 111, 114, 109]⟩, 0, 0, 0), (⟨#[100, 102, 116]⟩, 0, 0, 0), (⟨#[115, 117, 109]⟩, 1, 1, 9), (⟨#[102, 111, 108, 100]⟩, 2, 0, 0), (⟨#[115, 111, 114, 116]⟩, 0, 0, 0), (⟨#[99, 111, 117, 110, 116]⟩, 0, 0, 0), (⟨#[116, 97, 107, 101]⟩, 1, 0, 99), (⟨#[115, 107, 105, 112]⟩, 1, 0, 99), (⟨#[116, 119, 105, 99, 101]⟩, 0, 0, 0), (⟨#[98, 111, 116, 104]⟩, 3, 0, 0), (⟨#[112, 97, 114]⟩, 4, 1, 4)]
def nmL : List ByteArray := patL.map (·.1)
def howL : List ByteArray := [⟨#[109, 97, 120]⟩, ⟨#[109, 105, 110]⟩, ⟨#[115, 117, 109]⟩]
/-- The table's cells. -/
def patF : List Value := patL.flatMap (fun P => [.string P.1, .int .i64 P.2.1, .int .i64 P.2.2.1, .int .i64 P.2.2.2])
def patV (P : ByteArray × Nat × Int × Int) : Value := .agg #[.string P.1, .int .i64 P.2.1, .int .i64 P.2.2.1, .int .i64 P.2.2.2]
/-- The table lies in its variable. -/
structure PatG (w : World) : Prop where
  cells : w.rangeAt 8 0 patF
  lt : 8 < w.heap.size
theorem PatG.grown {w w' : World} {j : Option Nat} (h : PatG w) (g : w.grownBy w' j) (hj : j ≠ some 8) : PatG w' := by
  have e := g.block 8 h.lt (Ne.symm hj)
  refine ⟨fun i v hv => ?_, Nat.lt_of_lt_of_le h.lt g.size⟩
  have := h.cells i v hv
  unfold World.cell? at this ⊢
  simp only [e]
  exact this
theorem pat_cases {j : Nat} (h : j < 21) : j = 0 ∨ j = 1 ∨ j = 2 ∨ j = 3 ∨ j = 4 ∨ j = 5 ∨ j = 6 ∨ j = 7 ∨ j = 8 ∨ j = 9 ∨ j = 10 ∨ j = 11 ∨ j = 12 ∨ j = 13 ∨ j = 14 ∨ j = 15 ∨ j = 16 ∨ j = 17 ∨ j = 18 ∨ j = 19 ∨ j = 20 := by omega
theorem Tryz.undP : Tryz.prog.underlying 233 = some (.array 21 212) := by kernel_rfl
theorem Tryz.sizeP : (Tryz.prog.info? 233).map (·.size) = some patF.length := by kernel_rfl
theorem index_law (w : World) (j : Nat) (hj : j < patL.length) : (Instr.index 233 (.agg patF.toArray) (.int .i64 (j : Int))).run Tryz.prog w = .ok (patV patL[j]) w := by
  have hj2 : j < 21 := hj
  rcases pat_cases hj2 with rfl | rfl | rfl | rfl | rfl | rfl | rfl | rfl | rfl | rfl | rfl | rfl | rfl | rfl | rfl | rfl | rfl | rfl | rfl | rfl | rfl <;> (show _ = _; kernel_rfl)
/-- The j-th row of the table. -/
theorem PatG.row {w : World} (h : PatG w) (j : Nat) (hj : j < patL.length) : w.rangeAt 8 (4 * j) [.string patL[j].1, .int .i64 patL[j].2.1, .int .i64 patL[j].2.2.1, .int .i64 patL[j].2.2.2] := by
  have hj2 : j < 21 := hj
  intro i v hv
  have hi : i < 4 := by
    rcases Nat.lt_or_ge i 4 with h1 | h1
    · exact h1
    · rw [List.getElem?_eq_none (by simpa using h1)] at hv; cases hv
  have key : ∀ j (hj : j < patL.length), ∀ i, i < 4 → patF[4 * j + i]? = [Value.string patL[j].1, .int .i64 patL[j].2.1, .int .i64 patL[j].2.2.1, .int .i64 patL[j].2.2.2][i]? := by
    intro j hj i hi
    have hj2 : j < 21 := hj
    have hi2 : i = 0 ∨ i = 1 ∨ i = 2 ∨ i = 3 := by omega
    rcases pat_cases hj2 with rfl | rfl | rfl | rfl | rfl | rfl | rfl | rfl | rfl | rfl | rfl | rfl | rfl | rfl | rfl | rfl | rfl | rfl | rfl | rfl | rfl <;> rcases hi2 with rfl | rfl | rfl | rfl <;> rfl
  have := h.cells (4 * j + i) v (by rw [key j hj i hi]; exact hv)
  simpa using this
end Go.Proofs.YtdfkjgogdbeokaaGreatDoor
