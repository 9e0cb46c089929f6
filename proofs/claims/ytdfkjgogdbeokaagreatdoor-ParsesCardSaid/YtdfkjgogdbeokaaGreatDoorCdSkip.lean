/-
  DERIVED. The code's reader: skip and closes at any place; shared.
-/
import Derived.Test.YtdfkjgogdbeokaaGreatDoorCdBase
namespace Go.Proofs.YtdfkjgogdbeokaaGreatDoor
open Go.RowKit
set_option linter.unusedVariables false

def skipS (s : ByteArray) (c : UInt8) (p : Nat) : Nat := if isAt s p c = true then p + 1 else p
theorem skip_any (w : World) (b : Nat) (s : ByteArray) (p k : Nat) (c : UInt8) (ci : Int) (hc : ((c.toNat : Nat) : Int) = ci) (h : Cr w b s p k) (hp : p ≤ s.size) (hs : s.size ≤ 120) :
    Calls Tryz.prog 94 #[.pointer (some ⟨b, 0, none⟩), .int .u8 ci] w fun e w' => e = .returned (.bool (isAt s p c)) ∧ Cr w' b s (skipS s c p) k ∧ w.grownBy w' (some b) := by
  subst hc
  by_cases hps : p < s.size
  · cases hb : (s[p] == c)
    · have e : isAt s p c = false := by rw [isAt_lt c hps]; exact hb
      rw [e]
      refine (skip_no w b s p k c h hps hb).mono ?_
      rintro e1 w' ⟨rfl, n, rfl⟩
      exact ⟨rfl, by unfold skipS; rw [e]; exact h, grown_drewN _ _ _⟩
    · have e : isAt s p c = true := by rw [isAt_lt c hps]; exact hb
      rw [e]
      refine (skip_yes w b s p k c h hps (by omega) hb).mono ?_
      rintro e1 w' ⟨rfl, h2, h3⟩
      exact ⟨rfl, by unfold skipS; rw [e]; exact h2, h3⟩
  · have e : isAt s p c = false := isAt_ge c (by omega)
    rw [e]
    refine (skip_end w b s p k c h (by omega)).mono ?_
    rintro e1 w' ⟨rfl, n, rfl⟩
    exact ⟨rfl, by unfold skipS; rw [e]; exact h, grown_drewN _ _ _⟩

/-- closes: does it?, and the place. -/
def closB (s : ByteArray) (c : UInt8) (p : Nat) : Bool := if c = 0 then p == s.size else isAt s p c
def closP (s : ByteArray) (c : UInt8) (p : Nat) : Nat := if c = 0 then p else skipS s c p
set_option maxRecDepth 100000 in
set_option maxHeartbeats 800000 in
theorem closes_any (w : World) (b : Nat) (s : ByteArray) (p k : Nat) (c : UInt8) (ci : Int) (hc : ((c.toNat : Nat) : Int) = ci) (h : Cr w b s p k) (hp : p ≤ s.size) (hs : s.size ≤ 120) :
    Calls Tryz.prog 92 #[.pointer (some ⟨b, 0, none⟩), .int .u8 ci] w fun e w' => e = .returned (.bool (closB s c p)) ∧ Cr w' b s (closP s c p) k ∧ w.grownBy w' (some b) := by
  obtain ⟨c0, c1, c2, f1, f2⟩ := h.cells
  by_cases hc0 : c = 0
  · subst hc0
    have hci : ci = 0 := by rw [← hc]; rfl
    subst hci
    have e1 : closB s 0 p = (p == s.size) := rfl
    have e2 : closP s 0 p = p := rfl
    rw [e1, e2]
    have hps : ((p : Int) == (s.size : Int)) = (p == s.size) := by
      rw [Bool.eq_iff_iff]; simp; omega
    go_enter Tryz.func92, Tryz.ntmps92
    go_wp2
    go_quiet (fail)
    go_wp2
    go_ret
    exact ⟨by first | rfl | (rw [← hps]; rfl), h, grown_drewN _ _ _⟩
  · have e1 : closB s c p = isAt s p c := by unfold closB; rw [if_neg hc0]
    have e2 : closP s c p = skipS s c p := by unfold closP; rw [if_neg hc0]
    rw [e1, e2]
    have hcb : (ci == 0) = false := by
      have : c.toNat ≠ 0 := fun e => hc0 (UInt8.toNat_inj.mp e)
      rw [← hc]; simp; omega
    go_enter Tryz.func92, Tryz.ntmps92
    go_wp2_with fail
    refine (skip_any w b s p k c ci hc h hp hs).mono ?_
    rintro e w' ⟨rfl, h2, h3⟩
    go_wp2
    go_ret
    exact ⟨rfl, h2, h3⟩

/-- With how many bytes both begin. -/
def samB (a b : ByteArray) (n : Nat) : Bool := decide (n < a.size) && (decide (n < b.size) && (a.data[n]? == b.data[n]?))
def shGo (a b : ByteArray) : Nat → Nat → Nat
  | 0, n => n
  | f + 1, n => if samB a b n = true then shGo a b f (n + 1) else n
def shAt (a b : ByteArray) (n : Nat) : Nat := shGo a b (a.size - n) n
theorem sh_stop {a b : ByteArray} {n : Nat} (h : samB a b n = false) : shAt a b n = n := by
  unfold shAt
  generalize a.size - n = f
  cases f <;> simp [shGo, h]
theorem sh_go {a b : ByteArray} {n : Nat} (h : samB a b n = true) : shAt a b n = shAt a b (n + 1) ∧ n < a.size ∧ n < b.size := by
  have hh := h
  unfold samB at hh
  simp only [Bool.and_eq_true, decide_eq_true_eq] at hh
  refine ⟨?_, hh.1, hh.2.1⟩
  unfold shAt
  obtain ⟨f, hf⟩ : ∃ f, a.size - n = f + 1 := ⟨a.size - n - 1, by omega⟩
  have e : a.size - (n + 1) = f := by omega
  rw [hf, e]
  simp [shGo, h]

set_option maxRecDepth 100000 in
set_option maxHeartbeats 2000000 in
theorem shared_any (w : World) (a c : ByteArray) (hs : a.size ≤ 120) :
    Calls Tryz.prog 123 #[.string a, .string c] w fun e w' => e = .returned (.int .i64 (shAt a c 0 : Nat)) ∧ ∃ n, w' = w.drewN n := by
  generalize hRES : shAt a c 0 = RES
  go_enter Tryz.func123, Tryz.ntmps123
  go_wp2
  go_loopw [5] (fun t wr => ∃ k n : Nat, t = .int .i64 k ∧ k ≤ a.size ∧ shAt a c k = RES ∧ wr = w.drewN n) (fun t _ => a.size - (intOf t).toNat)
  case atStart => exact ⟨0, 0, rfl, by omega, hRES, rfl⟩
  case round =>
    obtain ⟨k, n, rfl, hk, hres, rfl⟩ := hrel
    have HR : Hid (shAt a c k = RES) := hres
    clear hres hRES
    by_cases h1 : k < a.size
    · have h1i : (k : Int) < (a.size : Int) := by omega
      by_cases h2 : k < c.size
      · have h2i : (k : Int) < (c.size : Int) := by omega
        have hbb := byte_beq a[k] c[k]
        have hsb : samB a c k = (a[k] == c[k]) := by
          have e1 : a.data[k]? = some a[k] := by
            rw [Array.getElem?_eq_getElem (by simpa using h1)]
            rfl
          have e2 : c.data[k]? = some c[k] := by
            rw [Array.getElem?_eq_getElem (by simpa using h2)]
            rfl
          unfold samB
          rw [e1, e2]
          simp [h1, h2]
        cases h3 : (a[k] == c[k])
        · rw [h3] at hbb hsb
          have hst := sh_stop hsb
          go_wp2
          go_quiet (fail)
          go_wp2
          go_ret
          exact ⟨by rw [← HR.out, hst]; rfl, _, (drewN_two _ _ _).symm⟩
        · rw [h3] at hbb hsb
          have hst := (sh_go hsb).1
          go_wp2
          go_quiet (fail)
          go_wp2
          exact ⟨⟨k + 1, _, by simp, by omega, by rw [← hst]; exact HR.out, rfl⟩, by simp [intOf]; omega⟩
      · have h2i : decide ((k : Int) < (c.size : Int)) = false := by simp; omega
        have hsb : samB a c k = false := by unfold samB; simp [h2]
        have hst := sh_stop hsb
        go_wp2
        go_quiet (fail)
        go_wp2
        go_ret
        exact ⟨by rw [← HR.out, hst]; rfl, _, (drewN_two _ _ _).symm⟩
    · have h1i : decide ((k : Int) < (a.size : Int)) = false := by simp; omega
      have hsb : samB a c k = false := by unfold samB; simp [h1]
      have hst := sh_stop hsb
      go_wp2
      go_quiet (fail)
      go_wp2
      go_ret
      exact ⟨by rw [← HR.out, hst]; rfl, _, (drewN_two _ _ _).symm⟩
end Go.Proofs.YtdfkjgogdbeokaaGreatDoor
