/-
  DERIVED. The reference's Reader in memory; here, eat, digit.
-/
import Derived.Test.YtdfkjgogdbeokaaGreatDoorProg
import Derived.WalkKit
import Derived.WalkSpells
import Derived.WalkLawsBesides
import Derived.KernelRfl
import Derived.Deep.QuietTactic
import Derived.BigQuiet
namespace Go.Proofs.YtdfkjgogdbeokaaGreatDoor
open Go.RowKit

/-- Does byte c stand at place p? -/
def isAt (s : ByteArray) (p : Nat) (c : UInt8) : Bool := s.data[p]? == some c

/-- Block b is a Reader. -/
def Rd (w : World) (b : Nat) (s : ByteArray) (p : Nat) (bad : Bool) (nv : Value) : Prop := w.heap[b]? = some (.cells #[.string s, .int .i64 p, .bool bad, nv] 103 (0, 0))
theorem Rd.lt {w : World} {b : Nat} {s : ByteArray} {p : Nat} {bad : Bool} {nv : Value} (h : Rd w b s p bad nv) : b < w.heap.size := by
  unfold Rd at h
  rcases Nat.lt_or_ge b w.heap.size with h1 | h1
  · exact h1
  · rw [Array.getElem?_eq_none h1] at h; cases h
theorem Rd.cells {w : World} {b : Nat} {s : ByteArray} {p : Nat} {bad : Bool} {nv : Value} (h : Rd w b s p bad nv) :
    w.cell? ⟨b, 0, none⟩ = some (.string s) ∧ w.cell? ⟨b, 1, none⟩ = some (.int .i64 p) ∧ w.cell? ⟨b, 2, none⟩ = some (.bool bad) ∧ w.cell? ⟨b, 3, none⟩ = some nv ∧
    w.frozen? ⟨b, 1, none⟩ = false ∧ w.frozen? ⟨b, 2, none⟩ = false ∧ w.frozen? ⟨b, 3, none⟩ = false := by
  unfold Rd at h
  refine ⟨?_, ?_, ?_, ?_, ?_, ?_, ?_⟩ <;> simp [World.cell?, World.frozen?, h]
theorem setCell_block {w : World} {b i : Nat} {c : Array Value} {t : TypeId} {fr : Nat × Nat} (h : w.heap[b]? = some (.cells c t fr)) (v : Value) : (w.setCell ⟨b, i, none⟩ v).heap[b]? = some (.cells (c.setIfInBounds i v) t fr) := by
  simp only [World.setCell, Array.getElem?_modify]
  simp [h]
theorem Rd.setP {w : World} {b : Nat} {s : ByteArray} {p : Nat} {bad : Bool} {nv : Value} (h : Rd w b s p bad nv) (p' : Nat) : Rd (w.setCell ⟨b, 1, none⟩ (.int .i64 p')) b s p' bad nv := by
  unfold Rd at *
  rw [setCell_block h]; rfl
theorem Rd.setBad {w : World} {b : Nat} {s : ByteArray} {p : Nat} {bad : Bool} {nv : Value} (h : Rd w b s p bad nv) (x : Bool) : Rd (w.setCell ⟨b, 2, none⟩ (.bool x)) b s p x nv := by
  unfold Rd at *
  rw [setCell_block h]; rfl
theorem Rd.setN {w : World} {b : Nat} {s : ByteArray} {p : Nat} {bad : Bool} {nv : Value} (h : Rd w b s p bad nv) (x : Value) : Rd (w.setCell ⟨b, 3, none⟩ x) b s p bad x := by
  unfold Rd at *
  rw [setCell_block h]; rfl
theorem Rd.drewN {w : World} {b : Nat} {s : ByteArray} {p : Nat} {bad : Bool} {nv : Value} (h : Rd w b s p bad nv) (n : Nat) : Rd (w.drewN n) b s p bad nv := h
theorem Rd.of_block {w w' : World} {b : Nat} {s : ByteArray} {p : Nat} {bad : Bool} {nv : Value} (h : Rd w b s p bad nv) (e : w'.heap[b]? = w.heap[b]?) : Rd w' b s p bad nv := by
  unfold Rd at *
  rw [e]; exact h

theorem grown_refl (w : World) (row : Option Nat) : w.grownBy w row := ⟨rfl, rfl, rfl, Nat.le_refl _, fun _ _ _ => rfl⟩
theorem grown_drewN (w : World) (n : Nat) (row : Option Nat) : w.grownBy (w.drewN n) row := ⟨rfl, rfl, rfl, Nat.le_refl _, fun _ _ _ => rfl⟩
theorem grown_set (w : World) (b i : Nat) (v : Value) : w.grownBy (w.setCell ⟨b, i, none⟩ v) (some b) := ⟨rfl, rfl, rfl, by simp [World.setCell], fun k _ hk => Below.heap_setCell _ _ _ _ (fun e => hk (by rw [e]))⟩
theorem grown_trans {a b c : World} {row : Option Nat} (h : a.grownBy b row) (k : b.grownBy c row) : a.grownBy c row :=
  ⟨k.os.trans h.os, k.tape.trans h.tape, k.output.trans h.output, Nat.le_trans h.size k.size, fun i hi hr => (k.block i (Nat.lt_of_lt_of_le hi h.size) hr).trans (h.block i hi hr)⟩
theorem grown_alloc (w : World) (o : Obj) (row : Option Nat) : w.grownBy (w.alloc o) row := ⟨rfl, rfl, rfl, by simp, fun k hk _ => Below.heap_alloc _ _ _ hk⟩

theorem drewN_two (w : World) (a b : Nat) : w.drewN (a + b) = (w.drewN a).drewN b := by
  simp [World.drewN, Nat.add_assoc]
theorem isAt_lt {s : ByteArray} {p : Nat} (c : UInt8) (h : p < s.size) : isAt s p c = (s[p] == c) := by
  unfold isAt
  have : s.data[p]? = some s[p] := by
    rw [Array.getElem?_eq_getElem (by simpa using h)]
    rfl
  rw [this]
  simp
theorem isAt_ge {s : ByteArray} {p : Nat} (c : UInt8) (h : s.size ≤ p) : isAt s p c = false := by
  unfold isAt
  rw [Array.getElem?_eq_none (by simpa using h)]
  rfl

theorem byte_beq (a c : UInt8) : (((a.toNat : Nat) : Int) == ((c.toNat : Nat) : Int)) = (a == c) := by
  rw [Bool.eq_iff_iff]
  simp [← UInt8.toNat_inj]
  omega

set_option maxRecDepth 100000 in
set_option maxHeartbeats 400000 in
theorem here_bad (w : World) (b : Nat) (s : ByteArray) (p : Nat) (nv : Value) (c : UInt8) (h : Rd w b s p true nv) :
    Calls Tryz.prog 69 #[.pointer (some ⟨b, 0, none⟩), .int .u8 (c.toNat : Int)] w fun e w' => e = .returned (.bool false) ∧ ∃ n, w' = w.drewN n := by
  obtain ⟨c0, c1, c2, c3, _, _, _⟩ := h.cells
  go_enter Tryz.func69, Tryz.ntmps69
  go_wp2
  go_quiet (fail)
  go_wp2
  go_ret
  exact ⟨rfl, _, rfl⟩

set_option maxRecDepth 100000 in
set_option maxHeartbeats 400000 in
theorem here_end (w : World) (b : Nat) (s : ByteArray) (p : Nat) (nv : Value) (c : UInt8) (h : Rd w b s p false nv) (hp : ¬ p < s.size) :
    Calls Tryz.prog 69 #[.pointer (some ⟨b, 0, none⟩), .int .u8 (c.toNat : Int)] w fun e w' => e = .returned (.bool false) ∧ ∃ n, w' = w.drewN n := by
  obtain ⟨c0, c1, c2, c3, _, _, _⟩ := h.cells
  have hd : decide ((p : Int) < (s.size : Int)) = false := by simp; omega
  go_enter Tryz.func69, Tryz.ntmps69
  go_wp2
  go_quiet (fail)
  go_wp2
  go_ret
  exact ⟨rfl, _, rfl⟩

set_option maxRecDepth 100000 in
set_option maxHeartbeats 400000 in
theorem here_in (w : World) (b : Nat) (s : ByteArray) (p : Nat) (nv : Value) (c : UInt8) (h : Rd w b s p false nv) (hp : p < s.size) :
    Calls Tryz.prog 69 #[.pointer (some ⟨b, 0, none⟩), .int .u8 (c.toNat : Int)] w fun e w' => e = .returned (.bool (s[p] == c)) ∧ ∃ n, w' = w.drewN n := by
  obtain ⟨c0, c1, c2, c3, _, _, _⟩ := h.cells
  have hd : (p : Int) < (s.size : Int) := by omega
  go_enter Tryz.func69, Tryz.ntmps69
  go_wp2
  go_quiet (fail)
  go_wp2
  go_ret
  exact ⟨by rw [← byte_beq]; rfl, _, rfl⟩

/-- here, whatever the Reader. -/
theorem here_any (w : World) (b : Nat) (s : ByteArray) (p : Nat) (bad : Bool) (nv : Value) (c : UInt8) (ci : Int) (hc : ((c.toNat : Nat) : Int) = ci) (r : Bool) (h : Rd w b s p bad nv) (hr : (!bad && isAt s p c) = r) :
    Calls Tryz.prog 69 #[.pointer (some ⟨b, 0, none⟩), .int .u8 ci] w fun e w' => e = .returned (.bool r) ∧ ∃ n, w' = w.drewN n := by
  subst hc
  subst hr
  cases bad
  · by_cases hp : p < s.size
    · have e : (!false && isAt s p c) = (s[p] == c) := by simp [isAt_lt c hp]
      rw [e]
      exact here_in w b s p nv c h hp
    · have e : (!false && isAt s p c) = false := by simp [isAt_ge c (Nat.le_of_not_lt hp)]
      rw [e]
      exact here_end w b s p nv c h hp
  · exact here_bad w b s p nv c h

set_option maxRecDepth 100000 in
set_option maxHeartbeats 400000 in
theorem eat_yes (w : World) (b : Nat) (s : ByteArray) (p : Nat) (nv : Value) (c : UInt8) (ci : Int) (hc : ((c.toNat : Nat) : Int) = ci) (h : Rd w b s p false nv) (hr : isAt s p c = true) (hps : p ≤ 1000) :
    Calls Tryz.prog 70 #[.pointer (some ⟨b, 0, none⟩), .int .u8 ci] w fun e w' => e = .returned (.tuple #[]) ∧ Rd w' b s (p + 1) false nv ∧ w.grownBy w' (some b) := by
  go_enter Tryz.func70, Tryz.ntmps70
  go_wp2_with fail
  refine (here_any w b s p false nv c ci hc true h (by simpa using hr)).mono ?_
  rintro e w1 ⟨rfl, n, rfl⟩
  have h1 := h.drewN n
  obtain ⟨c0, c1, c2, c3, f1, f2, f3⟩ := h1.cells
  go_wp2
  go_end0
  exact ⟨rfl, h1.setP (p + 1), grown_trans (grown_drewN _ _ _) (grown_set _ _ _ _)⟩

set_option maxRecDepth 100000 in
set_option maxHeartbeats 400000 in
theorem eat_no (w : World) (b : Nat) (s : ByteArray) (p : Nat) (bad : Bool) (nv : Value) (c : UInt8) (ci : Int) (hc : ((c.toNat : Nat) : Int) = ci) (h : Rd w b s p bad nv) (hr : (!bad && isAt s p c) = false) :
    Calls Tryz.prog 70 #[.pointer (some ⟨b, 0, none⟩), .int .u8 ci] w fun e w' => e = .returned (.tuple #[]) ∧ Rd w' b s p true nv ∧ w.grownBy w' (some b) := by
  go_enter Tryz.func70, Tryz.ntmps70
  go_wp2_with fail
  refine (here_any w b s p bad nv c ci hc false h hr).mono ?_
  rintro e w1 ⟨rfl, n, rfl⟩
  have h1 := h.drewN n
  obtain ⟨c0, c1, c2, c3, f1, f2, f3⟩ := h1.cells
  go_wp2
  go_end0
  exact ⟨rfl, h1.setBad true, grown_trans (grown_drewN _ _ _) (grown_set _ _ _ _)⟩

/-- The digit at a place; -1: none. -/
def dg (s : ByteArray) (p : Nat) : Int := match s.data[p]? with | some c => if 48 ≤ c.toNat ∧ c.toNat ≤ 57 then (c.toNat : Int) - 48 else -1 | none => -1
theorem dg_in {s : ByteArray} {p : Nat} (h : p < s.size) : dg s p = if 48 ≤ s[p].toNat ∧ s[p].toNat ≤ 57 then (s[p].toNat : Int) - 48 else -1 := by
  have e : s.data[p]? = some s[p] := by
    rw [Array.getElem?_eq_getElem (by simpa using h)]
    rfl
  unfold dg
  rw [e]
theorem dg_out {s : ByteArray} {p : Nat} (h : ¬ p < s.size) : dg s p = -1 := by
  unfold dg
  rw [Array.getElem?_eq_none (by simpa using h)]

set_option maxRecDepth 100000 in
set_option maxHeartbeats 800000 in
theorem digit_out (w : World) (b : Nat) (s : ByteArray) (p : Nat) (nv : Value) (h : Rd w b s p false nv) (hp : ¬ p < s.size) :
    Calls Tryz.prog 112 #[.pointer (some ⟨b, 0, none⟩)] w fun e w' => e = .returned (.int .i64 (-1)) ∧ ∃ n, w' = w.drewN n := by
  obtain ⟨c0, c1, c2, c3, _, _, _⟩ := h.cells
  have hg : decide (s.size ≤ p) = true := by simp; omega
  have hgi : (s.size : Int) ≤ (p : Int) := by omega
  go_enter Tryz.func112, Tryz.ntmps112
  go_wp2
  go_quiet (fail)
  go_wp2
  go_ret
  exact ⟨rfl, _, rfl⟩

set_option maxRecDepth 100000 in
set_option maxHeartbeats 800000 in
theorem digit_low (w : World) (b : Nat) (s : ByteArray) (p : Nat) (nv : Value) (h : Rd w b s p false nv) (hp : p < s.size) (h1 : s[p].toNat < 48) :
    Calls Tryz.prog 112 #[.pointer (some ⟨b, 0, none⟩)] w fun e w' => e = .returned (.int .i64 (-1)) ∧ ∃ n, w' = w.drewN n := by
  obtain ⟨c0, c1, c2, c3, _, _, _⟩ := h.cells
  have hg : decide (s.size ≤ p) = false := by simp; omega
  have hpi : (p : Int) < (s.size : Int) := by omega
  have hb := s[p].toNat_lt
  generalize hc : s[p].toNat = cc at *
  have h1d : decide ((cc : Int) < 48) = true := by simp; omega
  have h1i : (cc : Int) < 48 := by omega
  go_enter Tryz.func112, Tryz.ntmps112
  go_wp2
  go_quiet (fail)
  go_wp2
  go_ret
  exact ⟨rfl, _, rfl⟩

set_option maxRecDepth 100000 in
set_option maxHeartbeats 800000 in
theorem digit_high (w : World) (b : Nat) (s : ByteArray) (p : Nat) (nv : Value) (h : Rd w b s p false nv) (hp : p < s.size) (h1 : 57 < s[p].toNat) :
    Calls Tryz.prog 112 #[.pointer (some ⟨b, 0, none⟩)] w fun e w' => e = .returned (.int .i64 (-1)) ∧ ∃ n, w' = w.drewN n := by
  obtain ⟨c0, c1, c2, c3, _, _, _⟩ := h.cells
  have hg : decide (s.size ≤ p) = false := by simp; omega
  have hpi : (p : Int) < (s.size : Int) := by omega
  have hb := s[p].toNat_lt
  generalize hc : s[p].toNat = cc at *
  have h1d : decide ((cc : Int) < 48) = false := by simp; omega
  have h2i : (57 : Int) < (cc : Int) := by omega
  go_enter Tryz.func112, Tryz.ntmps112
  go_wp2
  go_quiet (fail)
  go_wp2
  go_ret
  exact ⟨rfl, _, rfl⟩

set_option maxRecDepth 100000 in
set_option maxHeartbeats 800000 in
theorem digit_yes (w : World) (b : Nat) (s : ByteArray) (p : Nat) (nv : Value) (h : Rd w b s p false nv) (hp : p < s.size) (h1 : 48 ≤ s[p].toNat) (h2 : s[p].toNat ≤ 57) :
    Calls Tryz.prog 112 #[.pointer (some ⟨b, 0, none⟩)] w fun e w' => e = .returned (.int .i64 ((s[p].toNat : Int) - 48)) ∧ ∃ n, w' = w.drewN n := by
  obtain ⟨c0, c1, c2, c3, _, _, _⟩ := h.cells
  have hg : decide (s.size ≤ p) = false := by simp; omega
  have hpi : (p : Int) < (s.size : Int) := by omega
  have hb := s[p].toNat_lt
  generalize hc : s[p].toNat = cc at *
  have h1d : decide ((cc : Int) < 48) = false := by simp; omega
  have h2i : ¬ (57 : Int) < (cc : Int) := by omega
  go_enter Tryz.func112, Tryz.ntmps112
  go_wp2
  go_quiet (fail)
  go_wp2
  go_quiet (fail)
  go_wp2
  go_ret
  exact ⟨rfl, _, (drewN_two _ _ _).symm⟩

theorem digit_any (w : World) (b : Nat) (s : ByteArray) (p : Nat) (nv : Value) (d : Int) (h : Rd w b s p false nv) (hd : dg s p = d) :
    Calls Tryz.prog 112 #[.pointer (some ⟨b, 0, none⟩)] w fun e w' => e = .returned (.int .i64 d) ∧ ∃ n, w' = w.drewN n := by
  subst hd
  by_cases hp : p < s.size
  · rw [dg_in hp]
    by_cases h1 : 48 ≤ s[p].toNat
    · by_cases h2 : s[p].toNat ≤ 57
      · rw [if_pos ⟨h1, h2⟩]; exact digit_yes w b s p nv h hp h1 h2
      · rw [if_neg (by omega)]; exact digit_high w b s p nv h hp (by omega)
    · rw [if_neg (by omega)]; exact digit_low w b s p nv h hp (by omega)
  · rw [dg_out hp]; exact digit_out w b s p nv h hp
end Go.Proofs.YtdfkjgogdbeokaaGreatDoor
