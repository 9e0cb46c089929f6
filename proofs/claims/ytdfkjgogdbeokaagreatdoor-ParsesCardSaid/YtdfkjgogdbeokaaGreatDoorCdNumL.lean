/-
  DERIVED. The code's number and the reference's: the same place, the same word.
-/
import Derived.Test.YtdfkjgogdbeokaaGreatDoorCdNum
namespace Go.Proofs.YtdfkjgogdbeokaaGreatDoor
open Go.RowKit
set_option linter.unusedVariables false

theorem cn_digs (s : ByteArray) (low high sg : Int) (hsg : (sg = 1 ∧ low ≤ 1) ∨ (sg = -1 ∧ low = -high)) (hh : 1 ≤ high) : ∀ (f : Nat) (n : Int) (d r : Nat), 0 ≤ n → 0 < d →
    (cnGo s low high sg f (sg * n) d r).2.2 = digs s high f n r ∧ 0 < (cnGo s low high sg f (sg * n) d r).2.1 := by
  intro f
  induction f with
  | zero => intro n d r _ hd; exact ⟨rfl, hd⟩
  | succ f ih =>
    intro n d r hn hd
    have hb := dg_le s r
    simp only [cnGo, digs]
    by_cases h : dg s r < 0 ∨ n = 0 ∨ high < 10 * n + dg s r
    · rw [if_pos h, if_pos]
      · exact ⟨rfl, hd⟩
      · rcases hsg with ⟨rfl, hl⟩ | ⟨rfl, hl⟩ <;> omega
    · rw [if_neg h, if_neg]
      · have e : sg * n * 10 + sg * dg s r = sg * (10 * n + dg s r) := by
          rcases hsg with ⟨rfl, hl⟩ | ⟨rfl, hl⟩ <;> omega
        rw [e]
        exact ih (10 * n + dg s r) (d + 1) (r + 1) (by omega) (by omega)
      · rcases hsg with ⟨rfl, hl⟩ | ⟨rfl, hl⟩ <;> omega

/-- The code's number, as the reference has it. -/
theorem cn_first (s : ByteArray) (low high sg lo : Int) (p : Nat) (hsg : (sg = 1 ∧ low ≤ 1 ∧ lo = low) ∨ (sg = -1 ∧ low = -high ∧ lo = 1)) (hh : 1 ≤ high) (hh9 : high ≤ 999) (hl9 : 9 ≤ high ∨ sg = 1) :
    (cnAt s low high sg 0 0 p).2.2 = (if dg s p < 0 ∨ dg s p < lo ∨ high < dg s p then p else digsAt s high (dg s p) (p + 1)) ∧
    (decide (0 < (cnAt s low high sg 0 0 p).2.1)) = !(decide (dg s p < 0 ∨ dg s p < lo ∨ high < dg s p)) := by
  have hb := dg_le s p
  by_cases h : dg s p < 0 ∨ dg s p < lo ∨ high < dg s p
  · rw [if_pos h, cn_stop]
    · simp [h]
    · rcases hsg with ⟨rfl, hl, rfl⟩ | ⟨rfl, hl, rfl⟩ <;> omega
  · rw [if_neg h, cn_go]
    · have e : (0 : Int) * 10 + sg * dg s p = sg * dg s p := by omega
      rw [e]
      have hp : p < s.size := dg_lt (by omega)
      have k := cn_digs s low high sg (by rcases hsg with ⟨rfl, hl, rfl⟩ | ⟨rfl, hl, rfl⟩ <;> omega) hh (s.size - (p + 1)) (dg s p) (0 + 1) (p + 1) (by omega) (by omega)
      unfold cnAt digsAt
      refine ⟨k.1, ?_⟩
      simp only [h, k.2, decide_true, decide_false, Bool.not_false]
    · rcases hsg with ⟨rfl, hl, rfl⟩ | ⟨rfl, hl, rfl⟩ <;> omega
end Go.Proofs.YtdfkjgogdbeokaaGreatDoor
