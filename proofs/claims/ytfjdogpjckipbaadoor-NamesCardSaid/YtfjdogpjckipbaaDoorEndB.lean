/-
  DERIVED. ended, atEnd, along at a sentinel (Tell by a walk).
-/
import Derived.Test.YtfjdogpjckipbaaDoorWalkB
import Derived.Deep.RegionWith
namespace Go.Proofs.YtfjdogpjckipbaaDoor
open Go.RowKit Go.Extern.Stop Go.Stop Go.Extern

theorem Tryd.mMet (v : Value) (w : World) : (Go.method 329 55 v "flowline/flow.met").run Tryd.prog w = .ok (80, v) w := by kernel_rfl
theorem Tryd.mEnded (v : Value) (w : World) : (Go.method 329 55 v "flowline/flow.ended").run Tryd.prog w = .ok (79, v) w := by kernel_rfl
/-- What Tell looks for, in memory. -/
def Fd (w : World) (f : Nat) (n : Int) : Prop := w.heap[f]? = some (.cells #[.int .i64 n, .pointer none, .pointer none] 53 (0, 0))
theorem Fd.lt {w : World} {f : Nat} {n : Int} (h : Fd w f n) : f < w.heap.size := by
  unfold Fd at h
  rcases Nat.lt_or_ge f w.heap.size with h1 | h1
  · exact h1
  · rw [Array.getElem?_eq_none h1] at h; cases h
theorem Fd.below {w w' : World} {f : Nat} {n : Int} (h : Fd w f n) (hb : Below w.heap.size w w') : Fd w' f n := by
  have hl := h.lt
  unfold Fd at *
  rw [hb.block f hl]; exact h

theorem Fd.set {w : World} {f : Nat} {m : Int} (h : Fd w f m) (n : Int) : Fd (w.setCell ⟨f, 0, none⟩ (.int .i64 n)) f n := by
  unfold Fd at *
  simp only [World.setCell, Array.getElem?_modify]
  simp [h]
theorem set_other {w : World} {f q : Nat} (h : q ≠ f) (v : Value) : (w.setCell ⟨f, 0, none⟩ v).heap[q]? = w.heap[q]? := by
  have h' : ¬ f = q := fun e => h e.symm
  simp [World.setCell, Array.getElem?_modify, h']
/-- The walk, in memory. -/
def Wk (w : World) (b f : Nat) (e : Int) (o : Value) : Prop := w.heap[b]? = some (.cells #[.iface 55 (.pointer (some ⟨f, 0, none⟩)), .int .i64 e, .int .i64 0, o] 72 (0, 0))
theorem Wk.lt {w : World} {b f : Nat} {e : Int} {o : Value} (h : Wk w b f e o) : b < w.heap.size := by
  unfold Wk at h
  rcases Nat.lt_or_ge b w.heap.size with h1 | h1
  · exact h1
  · rw [Array.getElem?_eq_none h1] at h; cases h

set_option maxHeartbeats 1000000 in
theorem ended_b {a : Nat → Addr} {w : World} (k f F0 : Nat) (n : Int) (h : Sents a w) (hF : Fd w f 8) (hn : n < 8) (hF0 : F0 ≤ f)
    (hnum : ∀ w1, Sents a w1 → Calls Tryd.prog 81 #[.iface 167 (.pointer (some (a k)))] w1 fun e w' => e = .returned (.int .i64 n) ∧ Below w1.heap.size w1 w') :
    Calls Tryd.prog 79 #[.pointer (some ⟨f, 0, none⟩), .iface 167 (.pointer (some (a k)))] w fun e w' => e = .returned (.tuple #[]) ∧ Fd w' f n ∧ Below F0 w w' ∧ (∀ q, q ≠ f → q < w.heap.size → w'.heap[q]? = w.heap[q]?) := by
  have hl := hF.lt
  have c0 : w.cell? ⟨f, 0, none⟩ = some (.int .i64 8) := by unfold Fd at hF; simp [World.cell?, hF]
  go_enter Tryd.func79, Tryd.ntmps79
  have z0 : w.frozen? ⟨f, 0, none⟩ = false := by unfold Fd at hF; simp [World.frozen?, hF]
  have W1 := hnum w.drew (h.below ((Below.refl _ _).drew))
  have hFd : Fd w.drew f 8 := hF
  have hld : f < w.drew.heap.size := hl
  have hmin : (if n < 8 then n else 8) = n := if_pos hn
  have hn8 : ¬ (8 : Int) < n := by omega
  have hn9 : ¬ (8 : Int) ≤ n := by omega
  have c0d : w.drew.cell? ⟨f, 0, none⟩ = some (.int .i64 8) := c0
  have z0d : w.drew.frozen? ⟨f, 0, none⟩ = false := z0
  clear hnum
  go_wp2_with fail
  go_region_with (go_at_call 81; with_reducible refine W1.mono ?_; rintro e w1 ⟨rfl, hb1⟩; have c1 : w1.cell? ⟨f, 0, none⟩ = some (.int .i64 8) := (hb1.cell (p := ⟨f, 0, none⟩) hld).trans c0d; have z1 : w1.frozen? ⟨f, 0, none⟩ = false := (hb1.frozen (p := ⟨f, 0, none⟩) hld).trans z0d)
  all_goals go_wp2
  all_goals go_end0
  all_goals exact ⟨rfl, Fd.set (hFd.below hb1) n, (((Below.refl _ _).drew).trans (hb1.mono (Nat.le_trans hF0 (Nat.le_of_lt hl)))).setCell hF0 _, fun q hq hql => (set_other hq _).trans (hb1.block q hql)⟩

set_option maxHeartbeats 1000000 in
theorem atEnd_b {a : Nat → Addr} {w : World} (k f b F0 : Nat) (e0 : Int) (o : Value) (n : Int) (h : Sents a w) (hF : Fd w f 8) (hW : Wk w b f e0 o) (hn : n < 8) (hF0 : F0 ≤ f)
    (hnum : ∀ w1, Sents a w1 → Calls Tryd.prog 81 #[.iface 167 (.pointer (some (a k)))] w1 fun e w' => e = .returned (.int .i64 n) ∧ Below w1.heap.size w1 w') :
    Calls Tryd.prog 26 #[.pointer (some ⟨b, 0, none⟩), .iface 167 (.pointer (some (a k)))] w fun e w' => e = .returned (.bool true) ∧ Fd w' f n ∧ Below F0 w w' ∧ (b ≠ f → w'.heap[b]? = w.heap[b]?) := by
  have mE := Tryd.mEnded
  have hl := hF.lt
  have hbl := hW.lt
  go_enter Tryd.func26, Tryd.ntmps26
  go_wp2_with fail
  refine (joined_b _ _ h.et).mono ?_
  rintro e w1 ⟨rfl, hb1⟩
  have h1 := h.below hb1
  have hF1 := hF.below hb1
  have q0 : w1.cell? ⟨b, 0, none⟩ = some (.iface 55 (.pointer (some ⟨f, 0, none⟩))) := by
    rw [hb1.cell (p := ⟨b, 0, none⟩) hbl]
    unfold Wk at hW
    simp [World.cell?, hW]
  go_wp2_with fail
  refine (ended_b k f F0 n h1 hF1 hn hF0 hnum).mono ?_
  rintro e w2 ⟨rfl, hF2, hb2, ho2⟩
  go_wp2
  go_ret
  refine ⟨rfl, hF2, (hb1.mono (Nat.le_trans hF0 (Nat.le_of_lt hl))).trans hb2, fun hne => (ho2 b hne (Nat.lt_of_lt_of_le hbl hb1.size)).trans (hb1.block b hbl)⟩
end Go.Proofs.YtfjdogpjckipbaaDoor
