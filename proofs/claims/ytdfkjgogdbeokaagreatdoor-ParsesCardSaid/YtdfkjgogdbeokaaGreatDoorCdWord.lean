/-
  DERIVED. The code's reader: word.
-/
import Derived.Test.YtdfkjgogdbeokaaGreatDoorCdSkip
namespace Go.Proofs.YtdfkjgogdbeokaaGreatDoor
open Go.RowKit
set_option linter.unusedVariables false

theorem shGo_le (a b : ByteArray) : ∀ (f n : Nat), n ≤ a.size → n ≤ b.size → shGo a b f n ≤ a.size ∧ shGo a b f n ≤ b.size := by
  intro f
  induction f with
  | zero => intro n h k; exact ⟨h, k⟩
  | succ f ih =>
    intro n h k
    unfold shGo
    split
    · rename_i hs
      have := sh_go hs
      exact ih (n + 1) this.2.1 this.2.2
    · exact ⟨h, k⟩
theorem shAt_le (a b : ByteArray) : shAt a b 0 ≤ a.size ∧ shAt a b 0 ≤ b.size := shGo_le a b _ 0 (Nat.zero_le _) (Nat.zero_le _)

/-- word: which one?, and how far. -/
def wordS (rest : ByteArray) : List ByteArray → Nat → Nat → Option Nat × Nat
  | [], _, far => (none, far)
  | x :: xs, i, far => if shAt rest x 0 = x.size then (some i, x.size) else wordS rest xs (i + 1) (max far (shAt rest x 0))
theorem wordS_end {rest : ByteArray} {ws : List ByteArray} {k i far : Nat} (h : ¬ k < ws.length) : wordS rest (ws.drop k) i far = (none, far) := by
  rw [List.drop_eq_nil_of_le (by omega)]; rfl
theorem wordS_hit {rest : ByteArray} {ws : List ByteArray} {k i far : Nat} (h : k < ws.length) (e : shAt rest ws[k] 0 = ws[k].size) : wordS rest (ws.drop k) i far = (some i, ws[k].size) := by
  rw [List.drop_eq_getElem_cons h]; simp [wordS, e]
theorem wordS_next {rest : ByteArray} {ws : List ByteArray} {k i far : Nat} (h : k < ws.length) (e : ¬ shAt rest ws[k] 0 = ws[k].size) : wordS rest (ws.drop k) i far = wordS rest (ws.drop (k + 1)) (i + 1) (max far (shAt rest ws[k] 0)) := by
  rw [List.drop_eq_getElem_cons h]; simp [wordS, e]
def WordPost (w : World) (b : Nat) (s : ByteArray) (p k : Nat) (R : Option Nat × Nat) (e : Ending) (w' : World) : Prop :=
  (match R.1 with | some i => e = .returned (.tuple #[.int .i64 i, .bool true]) | none => e = .returned (.tuple #[.int .i64 0, .bool false])) ∧ Cr w' b s (p + R.2) k ∧ w.grownBy w' (some b)

set_option maxRecDepth 100000 in
set_option maxHeartbeats 2000000 in
theorem word_any (w : World) (b : Nat) (s : ByteArray) (p k : Nat) (h : Cr w b s p k) (hp : p ≤ s.size) (hs : s.size ≤ 120) (g cap : Nat) (ws : List ByteArray) (hw : ∀ i (hi : i < ws.length), w.cell? ⟨g, i, none⟩ = some (.string ws[i])) (hwl : ws.length ≤ 1000) :
    Calls Tryz.prog 121 #[.pointer (some ⟨b, 0, none⟩), .slice (some ⟨g, 0, none⟩) ws.length cap] w fun e w' => WordPost w b s p k (wordS (s.extract p s.size) ws 0 0) e w' := by
  obtain ⟨c0, c1, c2, f1, f2⟩ := h.cells
  generalize hRES : wordS (s.extract p s.size) ws 0 0 = RES
  have hpi : (p : Int) ≤ (s.size : Int) := by omega
  have hrz : (s.extract p s.size).size ≤ 120 := by rw [ByteArray.size_extract]; omega
  have HW : Hid (∀ i (hi : i < ws.length), w.cell? ⟨g, i, none⟩ = some (.string ws[i])) := hw
  clear hw
  go_enter Tryz.func121, Tryz.ntmps121
  go_wp2
  go_quiet (fail)
  go_wp2
  generalize s.extract p s.size = rest at *
  go_loopw [7, 22] (fun t7 t22 wr => ∃ j far n : Nat, j ≤ ws.length ∧ t7 = .int .i64 far ∧ t22 = .int .i64 j ∧ far ≤ 120 ∧ wordS rest (ws.drop j) j far = RES ∧ wr = w.drewN n) (fun _ t _ => ws.length - (intOf t).toNat)
  case atStart => exact ⟨0, 0, _, by omega, rfl, rfl, by omega, by simpa using hRES, rfl⟩
  case round =>
    obtain ⟨j, far, n, hj, rfl, rfl, hfar, hres, rfl⟩ := hrel
    have HR : Hid (wordS rest (ws.drop j) j far = RES) := hres
    clear hres hRES
    by_cases hlt : j < ws.length
    · have hji : (j : Int) < (ws.length : Int) := by omega
      have hcj := HW.out j hlt
      have hle := shAt_le rest ws[j]
      have HH := @wordS_hit rest ws j j far hlt
      have HN := @wordS_next rest ws j j far hlt
      generalize ws[j] = x at *
      have HH2 : Hid (shAt rest x 0 = x.size → wordS rest (ws.drop j) j far = (some j, x.size)) := HH
      have HN2 : Hid (¬ shAt rest x 0 = x.size → wordS rest (ws.drop j) j far = wordS rest (ws.drop (j + 1)) (j + 1) (max far (shAt rest x 0))) := HN
      clear HH HN
      go_wp2_with fail
      refine (shared_any _ rest x hrz).mono ?_
      rintro e w1 ⟨rfl, n1, rfl⟩
      generalize hsh : shAt rest x 0 = m at *
      have HS : Hid (shAt rest x 0 = m) := hsh
      clear hsh
      by_cases hm : m = x.size
      · have hmb : ((m : Int) == (x.size : Int)) = true := by simp [hm]
        go_wp2
        go_ret2
        have hR : RES = (some j, x.size) := by rw [← HR.out]; exact HH2.out hm
        subst hR
        exact ⟨rfl, Cr.setP (w := w.drewN (n + n1)) h (p + x.size), (grown_drewN _ _ _).trans (grown_set _ _ _ _)⟩
      · have hmb : ((m : Int) == (x.size : Int)) = false := by simp; omega
        have hmx : (if far < m then (m : Int) else (far : Int)) = ((max far m : Nat) : Int) := by split <;> omega
        go_wp2
        exact ⟨⟨j + 1, max far m, _, by omega, rfl, by simp, by omega, by rw [← HR.out, HN2.out hm], rfl⟩, by simp [intOf]; omega⟩
    · have hji : ¬ (j : Int) < (ws.length : Int) := by omega
      have hR : RES = (none, far) := by rw [← HR.out]; exact wordS_end hlt
      subst hR
      go_wp2
      go_ret2
      exact ⟨rfl, Cr.setP (w := w.drewN n) h (p + far), (grown_drewN _ _ _).trans (grown_set _ _ _ _)⟩
end Go.Proofs.YtdfkjgogdbeokaaGreatDoor
