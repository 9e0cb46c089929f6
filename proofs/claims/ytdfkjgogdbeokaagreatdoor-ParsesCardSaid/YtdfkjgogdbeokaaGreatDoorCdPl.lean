/-
  DERIVED. both and par of the reference, as the code goes; a line that is one ends at its closing byte.
-/
import Derived.Test.YtdfkjgogdbeokaaGreatDoorRfParse
import Derived.Test.YtdfkjgogdbeokaaGreatDoorCdPost
namespace Go.Proofs.YtdfkjgogdbeokaaGreatDoor
open Go.RowKit
set_option linter.unusedVariables false

/-- What a line of the reference keeps to, from a place on. -/
structure LGood (s : ByteArray) (p0 : Nat) (L : UInt8 → Rs → Rs) : Prop where
  bad : ∀ c (R : Rs), R.1 = true → L c R = R
  clos : ∀ c (R : Rs), c ≠ 0 → p0 < R.2.1 → R.2.1 ≤ s.size → R.2.2.length ≤ R.2.1 → (L c R).1 = false → isAt s (L c R).2.1 c = true
  fits : ∀ c (R : Rs), R.2.1 ≤ s.size → R.2.2.length ≤ R.2.1 → Fits s R (L c R)
theorem eat_at {s : ByteArray} {c : UInt8} {p : Nat} (h : isAt s p c = true) : eatS s c (false, p) = (false, p + 1) := by unfold eatS; simp [h]
theorem eat_off {s : ByteArray} {c : UInt8} {p : Nat} (h : isAt s p c = false) : eatS s c (false, p) = (true, p) := by unfold eatS; simp [h]
theorem eat_bad {s : ByteArray} {c : UInt8} {p : Nat} : eatS s c (true, p) = (true, p) := by unfold eatS; simp
/-- A line and its closing byte. -/
theorem L_eat {s : ByteArray} {p0 : Nat} {L : UInt8 → Rs → Rs} (g : LGood s p0 L) {c : UInt8} {R : Rs} (hc : c ≠ 0) (h0 : p0 < R.2.1) (h1 : R.2.1 ≤ s.size) (h2 : R.2.2.length ≤ R.2.1) : eatS s c ((L c R).1, (L c R).2.1) = ((L c R).1, clo (L c R)) := by
  have k := g.clos c R hc h0 h1 h2
  generalize L c R = Q at *
  obtain ⟨bad, p, ns⟩ := Q
  cases bad with
  | true => exact eat_bad
  | false => exact eat_at (k rfl)
theorem both_code {s : ByteArray} {p0 : Nat} {L : UInt8 → Rs → Rs} (g : LGood s p0 L) {q : Nat} {ns : List ByteArray} (h0 : p0 < q) (h1 : q ≤ s.size) (h2 : ns.length ≤ q) :
    ((L 59 (false, q, ns)).1 = true → bothS s L (false, q, ns) = (true, (L 59 (false, q, ns)).2.1, (L 59 (false, q, ns)).2.2)) ∧
    ((L 59 (false, q, ns)).1 = false → bothS s L (false, q, ns) =
      ((L 41 (false, (L 59 (false, q, ns)).2.1 + 1, (L 59 (false, q, ns)).2.2)).1, clo (L 41 (false, (L 59 (false, q, ns)).2.1 + 1, (L 59 (false, q, ns)).2.2)), (L 41 (false, (L 59 (false, q, ns)).2.1 + 1, (L 59 (false, q, ns)).2.2)).2.2)) := by
  have e1 := L_eat g (c := 59) (R := (false, q, ns)) (by decide) h0 h1 h2
  have f1 := g.fits 59 (false, q, ns) h1 h2
  have k1 := g.clos 59 (false, q, ns) (by decide) h0 h1 h2
  unfold bothS
  simp only [e1]
  generalize L 59 (false, q, ns) = Q at *
  obtain ⟨bad, p, ns1⟩ := Q
  unfold Fits at f1
  simp only at f1
  refine ⟨fun h => ?_, fun h => ?_⟩
  · simp only at h
    subst h
    have e2 : clo (true, p, ns1) = p := rfl
    rw [e2]
    have e3 := g.bad 41 (true, p, ns1) rfl
    simp only [e3, eat_bad]
  · simp only at h
    subst h
    have e2 : clo (false, p, ns1) = p + 1 := rfl
    have hp : p + 1 ≤ s.size := isAt_size (k1 rfl)
    rw [e2]
    have e4 := L_eat g (c := 41) (R := (false, p + 1, ns1)) (by decide) (by simp only; omega) (by simp only; omega) (by simp only; omega)
    simp only [e4]
theorem par_bad {s : ByteArray} {p0 : Nat} {L : UInt8 → Rs → Rs} (g : LGood s p0 L) {q : Nat} {ns : List ByteArray} : parS s L (true, q, ns) = (true, q, ns) := by
  unfold parS
  simp only [eat_bad, g.bad 41 (true, q, ns) rfl]
theorem par_off {s : ByteArray} {p0 : Nat} {L : UInt8 → Rs → Rs} (g : LGood s p0 L) {q : Nat} {ns : List ByteArray} (h : isAt s q 40 = false) : parS s L (false, q, ns) = (true, q, ns) := by
  unfold parS
  simp only [eat_off h, g.bad 41 (true, q, ns) rfl, eat_bad]
theorem par_code {s : ByteArray} {p0 : Nat} {L : UInt8 → Rs → Rs} (g : LGood s p0 L) {q : Nat} {ns : List ByteArray} (h : isAt s q 40 = true) (h0 : p0 < q) (h2 : ns.length ≤ q) :
    parS s L (false, q, ns) = ((L 41 (false, q + 1, ns)).1, clo (L 41 (false, q + 1, ns)), (L 41 (false, q + 1, ns)).2.2) := by
  have hp := isAt_size h
  have e4 := L_eat g (c := 41) (R := (false, q + 1, ns)) (by decide) (by simp only; omega) (by simp only; omega) (by simp only; omega)
  unfold parS
  simp only [eat_at h, e4]

theorem lnGo_closed {s : ByteArray} {c : UInt8} {S : Nat → List ByteArray → Rs} (hS : ∀ p ns, p ≤ s.size → ns.length ≤ p → Fits s (false, p, ns) (S p ns) ∧ ((S p ns).1 = false → p < (S p ns).2.1)) :
    ∀ (f : Nat) (first : Bool) (R : Rs), R.2.1 ≤ s.size → R.2.2.length ≤ R.2.1 → s.size + 1 - R.2.1 < f → (lnGo S s c f first R).1 = false → overB s c (lnGo S s c f first R).2.1 = true := by
  intro f
  induction f with
  | zero => intro first R _ _ h; omega
  | succ f ih =>
    intro first R h1 h2 h3 h
    rw [lnGo] at h ⊢
    split at h
    · rename_i hb; rw [hb] at h; cases h
    · rename_i hb
      rw [if_neg hb]
      split at h
      · rename_i ho; rw [if_pos ho]; exact ho
      · rename_i ho
        rw [if_neg ho]
        have he : R.2.1 ≤ (if first then (false, R.2.1) else eatS s 124 (false, R.2.1)).2 ∧ (if first then (false, R.2.1) else eatS s 124 (false, R.2.1)).2 ≤ s.size := by
          split
          · exact ⟨Nat.le_refl _, h1⟩
          · exact eatS_le s 124 (false, R.2.1) h1
        generalize (if first then (false, R.2.1) else eatS s 124 (false, R.2.1)) = E at *
        split at h
        · cases h
        · rename_i hE
          rw [if_neg hE]
          have a := hS E.2 R.2.2 he.2 (by omega)
          have a1 := a.1
          unfold Fits at a1
          simp only at a1
          cases hb2 : (S E.2 R.2.2).1 with
          | true => rw [lnGo_bad hb2] at h; rw [hb2] at h; cases h
          | false => exact ih false (S E.2 R.2.2) a1.2.1 a1.2.2 (by have := a.2 hb2; omega) h
theorem lnF_good (s : ByteArray) (p0 f : Nat) (hf : s.size - p0 < f + 1) : LGood s p0 (lnF s f) := by
  refine ⟨fun c R h => ?_, fun c R hc h0 h1 h2 h => ?_, lnF_fits s f⟩
  · cases f with
    | zero => rfl
    | succ f => exact lnGo_bad h
  · obtain ⟨f', rfl⟩ : ∃ f', f = f' + 1 := ⟨f - 1, by omega⟩
    have := lnGo_closed (c := c) (S := stS s (lnF s f')) (fun p ns a b => stS_fits s (lnF s f') (lnF_fits s f') p ns a b) (s.size + 2) true R h1 h2 (by omega) h
    unfold overB at this
    rw [if_neg hc] at this
    exact this
end Go.Proofs.YtdfkjgogdbeokaaGreatDoor
