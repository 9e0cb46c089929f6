/-
  DERIVED. The reference's line.
-/
import Derived.Test.YtdfkjgogdbeokaaGreatDoorRfStage
namespace Go.Proofs.YtdfkjgogdbeokaaGreatDoor
open Go.RowKit
set_option linter.unusedVariables false

def overB (s : ByteArray) (c : UInt8) (p : Nat) : Bool := if c = 0 then p == s.size else isAt s p c
/-- The loop of line. -/
def lnGo (S : Nat → List ByteArray → Bool × Nat × List ByteArray) (s : ByteArray) (c : UInt8) : Nat → Bool → Bool × Nat × List ByteArray → Bool × Nat × List ByteArray
  | 0, _, R => R
  | f + 1, first, R =>
    if R.1 = true then R else if overB s c R.2.1 = true then R else
    if (if first then (false, R.2.1) else eatS s 124 (false, R.2.1)).1 = true then (true, (if first then (false, R.2.1) else eatS s 124 (false, R.2.1)).2, R.2.2)
    else lnGo S s c f false (S (if first then (false, R.2.1) else eatS s 124 (false, R.2.1)).2 R.2.2)
/-- line, as deep as f. -/
def lnF (s : ByteArray) : Nat → UInt8 → Bool × Nat × List ByteArray → Bool × Nat × List ByteArray
  | 0, _, R => R
  | f + 1, c, R => lnGo (stS s (lnF s f)) s c (s.size + 2) true R

/-- What holds of the place and the names. -/
def Fits (s : ByteArray) (R R' : Bool × Nat × List ByteArray) : Prop := R.2.1 ≤ R'.2.1 ∧ R'.2.1 ≤ s.size ∧ R'.2.2.length ≤ R'.2.1
theorem par_fits (s : ByteArray) (L : UInt8 → Bool × Nat × List ByteArray → Bool × Nat × List ByteArray) (hLn : ∀ (c : UInt8) (R : Bool × Nat × List ByteArray), R.2.1 ≤ s.size → R.2.2.length ≤ R.2.1 → Fits s R (L c R)) (R : Bool × Nat × List ByteArray) (h1 : R.2.1 ≤ s.size) (h2 : R.2.2.length ≤ R.2.1) : Fits s R (parS s L R) := by
  unfold parS
  have e1 := eatS_le s 40 (R.1, R.2.1) h1
  have l1 := hLn 41 ((eatS s 40 (R.1, R.2.1)).1, (eatS s 40 (R.1, R.2.1)).2, R.2.2) e1.2 (by simp only at *; omega)
  have e2 := eatS_le s 41 ((L 41 ((eatS s 40 (R.1, R.2.1)).1, (eatS s 40 (R.1, R.2.1)).2, R.2.2)).1, (L 41 ((eatS s 40 (R.1, R.2.1)).1, (eatS s 40 (R.1, R.2.1)).2, R.2.2)).2.1) l1.2.1
  unfold Fits at *
  simp only at *
  omega
theorem both_fits (s : ByteArray) (L : UInt8 → Bool × Nat × List ByteArray → Bool × Nat × List ByteArray) (hLn : ∀ (c : UInt8) (R : Bool × Nat × List ByteArray), R.2.1 ≤ s.size → R.2.2.length ≤ R.2.1 → Fits s R (L c R)) (R : Bool × Nat × List ByteArray) (h1 : R.2.1 ≤ s.size) (h2 : R.2.2.length ≤ R.2.1) : Fits s R (bothS s L R) := by
  unfold bothS
  have l1 := hLn 59 R h1 h2
  have e1 := eatS_le s 59 ((L 59 R).1, (L 59 R).2.1) l1.2.1
  have l2 := hLn 41 ((eatS s 59 ((L 59 R).1, (L 59 R).2.1)).1, (eatS s 59 ((L 59 R).1, (L 59 R).2.1)).2, (L 59 R).2.2) e1.2 (by have := l1.2.2; simp only at *; omega)
  have e2 := eatS_le s 41 ((L 41 ((eatS s 59 ((L 59 R).1, (L 59 R).2.1)).1, (eatS s 59 ((L 59 R).1, (L 59 R).2.1)).2, (L 59 R).2.2)).1, (L 41 ((eatS s 59 ((L 59 R).1, (L 59 R).2.1)).1, (eatS s 59 ((L 59 R).1, (L 59 R).2.1)).2, (L 59 R).2.2)).2.1) l2.2.1
  unfold Fits at *
  simp only at *
  omega
theorem stK_fits (s : ByteArray) (L : UInt8 → Bool × Nat × List ByteArray → Bool × Nat × List ByteArray) (hLn : ∀ (c : UInt8) (R : Bool × Nat × List ByteArray), R.2.1 ≤ s.size → R.2.2.length ≤ R.2.1 → Fits s R (L c R)) (hd : ByteArray) (q : Nat) (ns : List ByteArray) (h1 : q ≤ s.size) (h2 : ns.length + 1 ≤ q) : Fits s (false, q, ns) (stK s L hd q ns) := by
  have hl : ∀ x : ByteArray, (ns ++ [x]).length = ns.length + 1 := fun x => by simp
  have hN : ∀ lo hi x, Fits s (false, q, ns) ((numSpec s lo hi q).1, (numSpec s lo hi q).2, ns ++ [x]) := fun lo hi x => by
    have := numSpec_le s lo hi q h1
    unfold Fits
    simp only [hl]
    omega
  have hB : ∀ x, Fits s (false, q, ns) (false, q, ns ++ [x]) := fun x => by
    unfold Fits
    simp only [hl]
    omega
  have tr : ∀ R R', Fits s (false, q, ns) R → Fits s R R' → Fits s (false, q, ns) R' := fun R R' a b => by
    unfold Fits at *
    omega
  unfold stK
  split
  · exact tr _ _ (hN 1 4 _) (par_fits s L hLn _ (hN 1 4 _).2.1 (hN 1 4 _).2.2)
  · split
    · exact tr _ _ (hB _) (both_fits s L hLn _ (hB _).2.1 (hB _).2.2)
    · repeat' split
      all_goals first | exact hN _ _ _ | exact hB _
theorem bg_pos : ∀ x ∈ bgL, 0 < x.size := by
  intro x hx
  simp only [bgL, List.mem_cons, List.not_mem_nil, or_false] at hx
  rcases hx with rfl | rfl | rfl | rfl | rfl | rfl | rfl | rfl | rfl | rfl | rfl | rfl | rfl | rfl | rfl | rfl | rfl | rfl | rfl | rfl | rfl | rfl | rfl <;> decide
theorem hd_le {s : ByteArray} {fr : Nat} : ∀ (f p : Nat), p ≤ s.size → p ≤ (hdGo s fr f p).2 ∧ (hdGo s fr f p).2 ≤ s.size := by
  intro f
  induction f with
  | zero => intro p h; exact ⟨Nat.le_refl _, h⟩
  | succ f ih =>
    intro p h
    unfold hdGo
    split
    · exact ⟨Nat.le_refl _, h⟩
    · split
      · rename_i h2
        have := ih (p + 1) (next_lt h2)
        exact ⟨by omega, this.2⟩
      · exact ⟨Nat.le_refl _, h⟩
theorem stS_fits (s : ByteArray) (L : UInt8 → Bool × Nat × List ByteArray → Bool × Nat × List ByteArray) (hLn : ∀ (c : UInt8) (R : Bool × Nat × List ByteArray), R.2.1 ≤ s.size → R.2.2.length ≤ R.2.1 → Fits s R (L c R)) (p : Nat) (ns : List ByteArray) (h1 : p ≤ s.size) (h2 : ns.length ≤ p) : Fits s (false, p, ns) (stS s L p ns) ∧ ((stS s L p ns).1 = false → p < (stS s L p ns).2.1) := by
  have hle := hd_le (s := s) (fr := p) (s.size - p) p h1
  have htr := hd_true (s := s) (fr := p) (s.size - p) p
  obtain ⟨⟨ok, q⟩, hat⟩ : ∃ x, hdAt s p p = x := ⟨_, rfl⟩
  have hat2 : hdGo s p (s.size - p) p = (ok, q) := hat
  rw [hat2] at htr hle
  unfold stS
  rw [hat]
  cases ok with
  | false =>
    rw [if_neg (by simp)]
    refine ⟨?_, fun e => by cases e⟩
    unfold Fits
    simp only at *
    omega
  | true =>
    rw [if_pos rfl]
    obtain ⟨hhit, hpq⟩ := htr rfl
    have hm := hit_cases hhit
    have hlt : p < q := ext_lt rfl (bg_pos _ hm)
    have hK := stK_fits s L hLn (s.extract p q) q ns hle.2 (by omega)
    unfold Fits at *
    simp only at *
    omega
end Go.Proofs.YtdfkjgogdbeokaaGreatDoor
