/-
  DERIVED. The code's reader in memory; skip, closes, shared.
-/
import Derived.Test.YtdfkjgogdbeokaaGreatDoorRfBase
namespace Go.Proofs.YtdfkjgogdbeokaaGreatDoor
open Go.RowKit
set_option linter.unusedVariables false

/-- Block b is a reader of the code. -/
def Cr (w : World) (b : Nat) (s : ByteArray) (p k : Nat) : Prop := w.heap[b]? = some (.cells #[.string s, .int .i64 p, .int .i64 k] 146 (0, 0))
theorem Cr.lt {w : World} {b : Nat} {s : ByteArray} {p k : Nat} (h : Cr w b s p k) : b < w.heap.size := by
  unfold Cr at h
  rcases Nat.lt_or_ge b w.heap.size with h1 | h1
  · exact h1
  · rw [Array.getElem?_eq_none h1] at h; cases h
theorem Cr.cells {w : World} {b : Nat} {s : ByteArray} {p k : Nat} (h : Cr w b s p k) :
    w.cell? ⟨b, 0, none⟩ = some (.string s) ∧ w.cell? ⟨b, 1, none⟩ = some (.int .i64 p) ∧ w.cell? ⟨b, 2, none⟩ = some (.int .i64 k) ∧ w.frozen? ⟨b, 1, none⟩ = false ∧ w.frozen? ⟨b, 2, none⟩ = false := by
  unfold Cr at h
  refine ⟨?_, ?_, ?_, ?_, ?_⟩ <;> simp [World.cell?, World.frozen?, h]
theorem Cr.setP {w : World} {b : Nat} {s : ByteArray} {p k : Nat} (h : Cr w b s p k) (p' : Nat) : Cr (w.setCell ⟨b, 1, none⟩ (.int .i64 p')) b s p' k := by
  unfold Cr at *
  rw [setCell_block h]; rfl
theorem Cr.setK {w : World} {b : Nat} {s : ByteArray} {p k : Nat} (h : Cr w b s p k) (k' : Nat) : Cr (w.setCell ⟨b, 2, none⟩ (.int .i64 k')) b s p k' := by
  unfold Cr at *
  rw [setCell_block h]; rfl
theorem Cr.of_block {w w' : World} {b : Nat} {s : ByteArray} {p k : Nat} (h : Cr w b s p k) (e : w'.heap[b]? = w.heap[b]?) : Cr w' b s p k := by
  unfold Cr at *
  rw [e]; exact h

set_option maxRecDepth 100000 in
set_option maxHeartbeats 800000 in
theorem skip_end (w : World) (b : Nat) (s : ByteArray) (p k : Nat) (c : UInt8) (h : Cr w b s p k) (hp : p = s.size) :
    Calls Tryz.prog 94 #[.pointer (some ⟨b, 0, none⟩), .int .u8 (c.toNat : Int)] w fun e w' => e = .returned (.bool false) ∧ ∃ n, w' = w.drewN n := by
  obtain ⟨c0, c1, c2, f1, f2⟩ := h.cells
  have hd : ((p : Int) == (s.size : Int)) = true := by simp [hp]
  go_enter Tryz.func94, Tryz.ntmps94
  go_wp2
  go_quiet (fail)
  go_wp2
  go_ret
  exact ⟨rfl, _, rfl⟩

set_option maxRecDepth 100000 in
set_option maxHeartbeats 800000 in
theorem skip_no (w : World) (b : Nat) (s : ByteArray) (p k : Nat) (c : UInt8) (h : Cr w b s p k) (hp : p < s.size) (hc : (s[p] == c) = false) :
    Calls Tryz.prog 94 #[.pointer (some ⟨b, 0, none⟩), .int .u8 (c.toNat : Int)] w fun e w' => e = .returned (.bool false) ∧ ∃ n, w' = w.drewN n := by
  obtain ⟨c0, c1, c2, f1, f2⟩ := h.cells
  have hd : ((p : Int) == (s.size : Int)) = false := by simp; omega
  have hpi : (p : Int) < (s.size : Int) := by omega
  have hb := byte_beq s[p] c
  rw [hc] at hb
  have hb2 : (((s[p].toNat : Nat) : Int) != ((c.toNat : Nat) : Int)) = true := by rw [bne, hb]; rfl
  go_enter Tryz.func94, Tryz.ntmps94
  go_wp2
  go_quiet (fail)
  go_wp2
  go_ret
  exact ⟨rfl, _, rfl⟩

set_option maxRecDepth 100000 in
set_option maxHeartbeats 800000 in
theorem skip_yes (w : World) (b : Nat) (s : ByteArray) (p k : Nat) (c : UInt8) (h : Cr w b s p k) (hp : p < s.size) (hs : s.size ≤ 1000) (hc : (s[p] == c) = true) :
    Calls Tryz.prog 94 #[.pointer (some ⟨b, 0, none⟩), .int .u8 (c.toNat : Int)] w fun e w' => e = .returned (.bool true) ∧ Cr w' b s (p + 1) k ∧ w.grownBy w' (some b) := by
  obtain ⟨c0, c1, c2, f1, f2⟩ := h.cells
  have hd : ((p : Int) == (s.size : Int)) = false := by simp; omega
  have hpi : (p : Int) < (s.size : Int) := by omega
  have hb := byte_beq s[p] c
  rw [hc] at hb
  have hb2 : (((s[p].toNat : Nat) : Int) != ((c.toNat : Nat) : Int)) = false := by rw [bne, hb]; rfl
  have h2 : ∀ n, Cr ((w.drewN n).setCell ⟨b, 1, none⟩ (.int .i64 ((p : Int) + 1))) b s (p + 1) k := fun n => Cr.setP (w := w.drewN n) h (p + 1)
  go_enter Tryz.func94, Tryz.ntmps94
  go_wp2
  go_quiet (fail)
  go_wp2
  go_ret
  exact ⟨rfl, h2 _, (grown_drewN _ _ _).trans (grown_set _ _ _ _)⟩
end Go.Proofs.YtdfkjgogdbeokaaGreatDoor
