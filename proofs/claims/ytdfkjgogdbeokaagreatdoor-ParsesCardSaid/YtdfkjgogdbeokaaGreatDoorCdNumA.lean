/-
  DERIVED. The code's number, in the reference's words.
-/
import Derived.Test.YtdfkjgogdbeokaaGreatDoorCdNumL
namespace Go.Proofs.YtdfkjgogdbeokaaGreatDoor
open Go.RowKit
set_option linter.unusedVariables false

theorem cnumber_any (w : World) (b : Nat) (s : ByteArray) (p kst : Nat) (low high : Int) (h : Cr w b s p kst) (hs : s.size ≤ 120) (hp : p ≤ s.size) (hlo2 : low ≤ 1) (hhi : 1 ≤ high) (hhi2 : high ≤ 999) (hl : 0 ≤ low ∨ (low = -high ∧ 9 ≤ high)) :
    Calls Tryz.prog 122 #[.pointer (some ⟨b, 0, none⟩), .int .i64 low, .int .i64 high] w fun e w' =>
      (∃ v : Int, e = .returned (.tuple #[.int .i64 v, .bool (!(numSpec s low high p).1)])) ∧ Cr w' b s (numSpec s low high p).2 kst ∧ w.grownBy w' (some b) := by
  have hlo : -999 ≤ low := by omega
  by_cases hneg : low < 0
  · cases hat : isAt s p 45
    · have e1 : numAt s low p = p := by simp [numAt, numNeg, hat]
      have e2 : numLo s low p = low := by simp [numLo, numNeg, hat]
      have k := cn_first s low high 1 low p (Or.inl ⟨rfl, hlo2, rfl⟩) hhi hhi2 (Or.inr rfl)
      refine (cnB w b s p kst low high h hs hp hlo hlo2 hhi hhi2 hneg hat).mono ?_
      rintro e w' ⟨rfl, h2, h3⟩
      rw [k.1] at h2
      rw [k.2]
      unfold numSpec numEnd
      rw [e1, e2]
      by_cases hc : dg s p < 0 ∨ dg s p < low ∨ high < dg s p
      · rw [if_pos hc] at h2 ⊢
        exact ⟨⟨_, by rw [decide_eq_true hc]⟩, h2, h3⟩
      · rw [if_neg hc] at h2 ⊢
        exact ⟨⟨_, by rw [decide_eq_false hc]⟩, h2, h3⟩
    · have e1 : numAt s low p = p + 1 := by simp [numAt, numNeg, hat, hneg]
      have e2 : numLo s low p = 1 := by simp [numLo, numNeg, hat, hneg]
      have k := cn_first s low high (-1) 1 (p + 1) (Or.inr ⟨rfl, by omega, rfl⟩) hhi hhi2 (Or.inl (by omega))
      refine (cnA w b s p kst low high h hs hp hlo hlo2 hhi hhi2 hneg hat).mono ?_
      rintro e w' ⟨rfl, h2, h3⟩
      rw [k.1] at h2
      rw [k.2]
      unfold numSpec numEnd
      rw [e1, e2]
      by_cases hc : dg s (p + 1) < 0 ∨ dg s (p + 1) < 1 ∨ high < dg s (p + 1)
      · rw [if_pos hc] at h2 ⊢
        exact ⟨⟨_, by rw [decide_eq_true hc]⟩, h2, h3⟩
      · rw [if_neg hc] at h2 ⊢
        exact ⟨⟨_, by rw [decide_eq_false hc]⟩, h2, h3⟩
  · have e1 : numAt s low p = p := by simp [numAt, numNeg, hneg]
    have e2 : numLo s low p = low := by simp [numLo, numNeg, hneg]
    have k := cn_first s low high 1 low p (Or.inl ⟨rfl, hlo2, rfl⟩) hhi hhi2 (Or.inr rfl)
    refine (cnC w b s p kst low high h hs hp hlo hlo2 hhi hhi2 hneg).mono ?_
    rintro e w' ⟨rfl, h2, h3⟩
    rw [k.1] at h2
    rw [k.2]
    unfold numSpec numEnd
    rw [e1, e2]
    by_cases hc : dg s p < 0 ∨ dg s p < low ∨ high < dg s p
    · rw [if_pos hc] at h2 ⊢
      exact ⟨⟨_, by rw [decide_eq_true hc]⟩, h2, h3⟩
    · rw [if_neg hc] at h2 ⊢
      exact ⟨⟨_, by rw [decide_eq_false hc]⟩, h2, h3⟩
end Go.Proofs.YtdfkjgogdbeokaaGreatDoor
