/-
  DERIVED. The reference's stage: bounds.
-/
import Derived.Test.YtdfkjgogdbeokaaGreatDoorRfKeep
import Derived.Deep.RegionLaw
import Derived.Deep.DrawnRows
namespace Go.Proofs.YtdfkjgogdbeokaaGreatDoor
open Go.RowKit
set_option linter.unusedVariables false
attribute [local go_sem ↓] Go.wp_at_zero Go.wp_at_succ

set_option maxRecDepth 100000 in
theorem bnd_add (w : World) : Calls Tryz.prog 88 #[.string ⟨#[97, 100, 100]⟩] w fun e w' => e = .returned (.tuple #[.int .i64 (-999), .int .i64 999]) ∧ w' = w := by
  go_enter Tryz.func88, Tryz.ntmps88
  go_wp2
  go_ret2
  exact ⟨rfl, rfl⟩

set_option maxRecDepth 100000 in
theorem bnd_mul (w : World) : Calls Tryz.prog 88 #[.string ⟨#[109, 117, 108]⟩] w fun e w' => e = .returned (.tuple #[.int .i64 (-999), .int .i64 999]) ∧ w' = w := by
  go_enter Tryz.func88, Tryz.ntmps88
  go_wp2
  go_ret2
  exact ⟨rfl, rfl⟩

set_option maxRecDepth 100000 in
theorem bnd_spin (w : World) : Calls Tryz.prog 88 #[.string ⟨#[115, 112, 105, 110]⟩] w fun e w' => e = .returned (.tuple #[.int .i64 (-999), .int .i64 999]) ∧ w' = w := by
  go_enter Tryz.func88, Tryz.ntmps88
  go_wp2
  go_ret2
  exact ⟨rfl, rfl⟩

set_option maxRecDepth 100000 in
theorem bnd_sum (w : World) : Calls Tryz.prog 88 #[.string ⟨#[115, 117, 109]⟩] w fun e w' => e = .returned (.tuple #[.int .i64 (1), .int .i64 9]) ∧ w' = w := by
  go_enter Tryz.func88, Tryz.ntmps88
  go_wp2
  go_ret2
  exact ⟨rfl, rfl⟩

set_option maxRecDepth 100000 in
theorem bnd_take (w : World) : Calls Tryz.prog 88 #[.string ⟨#[116, 97, 107, 101]⟩] w fun e w' => e = .returned (.tuple #[.int .i64 (0), .int .i64 99]) ∧ w' = w := by
  go_enter Tryz.func88, Tryz.ntmps88
  go_wp2
  go_ret2
  exact ⟨rfl, rfl⟩

set_option maxRecDepth 100000 in
theorem bnd_skip (w : World) : Calls Tryz.prog 88 #[.string ⟨#[115, 107, 105, 112]⟩] w fun e w' => e = .returned (.tuple #[.int .i64 (0), .int .i64 99]) ∧ w' = w := by
  go_enter Tryz.func88, Tryz.ntmps88
  go_wp2
  go_ret2
  exact ⟨rfl, rfl⟩

set_option maxRecDepth 100000 in
theorem bnd_par (w : World) : Calls Tryz.prog 88 #[.string ⟨#[112, 97, 114]⟩] w fun e w' => e = .returned (.tuple #[.int .i64 (1), .int .i64 4]) ∧ w' = w := by
  go_enter Tryz.func88, Tryz.ntmps88
  go_wp2
  go_ret2
  exact ⟨rfl, rfl⟩

theorem lt_of_heap {w : World} {k : Nat} {o : Obj} (h : w.heap[k]? = some o) : k < w.heap.size := by
  rcases Nat.lt_or_ge k w.heap.size with h1 | h1
  · exact h1
  · rw [Array.getElem?_eq_none h1] at h; cases h
end Go.Proofs.YtdfkjgogdbeokaaGreatDoor
