/-
  DERIVED. The reference's number.
-/
import Derived.Test.YtdfkjgogdbeokaaGreatDoorRfBase
namespace Go.Proofs.YtdfkjgogdbeokaaGreatDoor
open Go.RowKit
set_option linter.unusedVariables false

def digs (s : ByteArray) (hi : Int) : Nat → Int → Nat → Nat
  | 0, _, p => p
  | f + 1, n, p => if dg s p < 0 ∨ n = 0 ∨ hi < 10 * n + dg s p then p else digs s hi f (10 * n + dg s p) (p + 1)
def digsAt (s : ByteArray) (hi n : Int) (p : Nat) : Nat := digs s hi (s.size - p) n p
theorem digs_stop {s : ByteArray} {hi n : Int} {p : Nat} (h : dg s p < 0 ∨ n = 0 ∨ hi < 10 * n + dg s p) : digsAt s hi n p = p := by
  unfold digsAt
  generalize s.size - p = f
  cases f with
  | zero => rfl
  | succ f => simp only [digs]; rw [if_pos h]
theorem dg_lt {s : ByteArray} {p : Nat} (h : 0 ≤ dg s p) : p < s.size := by
  by_cases hp : p < s.size
  · exact hp
  · rw [dg_out hp] at h; omega
theorem digs_go {s : ByteArray} {hi n : Int} {p : Nat} (h : ¬ (dg s p < 0 ∨ n = 0 ∨ hi < 10 * n + dg s p)) : digsAt s hi n p = digsAt s hi (10 * n + dg s p) (p + 1) := by
  have hp : p < s.size := dg_lt (by omega)
  unfold digsAt
  obtain ⟨f, hf⟩ : ∃ f, s.size - p = f + 1 := ⟨s.size - p - 1, by omega⟩
  have e : s.size - (p + 1) = f := by omega
  rw [hf, e]
  simp only [digs]
  rw [if_neg h]
theorem dg_le (s : ByteArray) (p : Nat) : -1 ≤ dg s p ∧ dg s p ≤ 9 := by
  unfold dg
  split
  · split
    · constructor <;> omega
    · omega
  · omega

/-- Where a number's reading ends, and whether there is one. -/
def numNeg (s : ByteArray) (lo : Int) (p : Nat) : Bool := isAt s p 45 && decide (lo < 0)
def numAt (s : ByteArray) (lo : Int) (p : Nat) : Nat := if numNeg s lo p then p + 1 else p
def numLo (s : ByteArray) (lo : Int) (p : Nat) : Int := if numNeg s lo p then 1 else lo
def numBad (s : ByteArray) (lo hi : Int) (p : Nat) : Prop := dg s (numAt s lo p) < 0 ∨ dg s (numAt s lo p) < numLo s lo p ∨ hi < dg s (numAt s lo p)
def numEnd (s : ByteArray) (lo hi : Int) (p : Nat) : Nat := digsAt s hi (dg s (numAt s lo p)) (numAt s lo p + 1)

/-- The place that a Reader has. -/
def pOf (w : World) (b : Nat) : Nat := match w.cell? ⟨b, 1, none⟩ with | some (.int _ q) => q.toNat | _ => 0
theorem pOf_rd {w : World} {b : Nat} {s : ByteArray} {p : Nat} {bad : Bool} {nv : Value} (h : Rd w b s p bad nv) : pOf w b = p := by
  unfold pOf
  rw [h.cells.2.1]
  simp

theorem isAt_size {s : ByteArray} {p : Nat} {c : UInt8} (h : isAt s p c = true) : p < s.size := by
  by_cases hp : p < s.size
  · exact hp
  · rw [isAt_ge c (Nat.le_of_not_lt hp)] at h; cases h

set_option maxRecDepth 100000 in
set_option maxHeartbeats 1000000 in
theorem numNbad1 (w : World) (b : Nat) (s : ByteArray) (p : Nat) (nv : Value) (lo hi : Int) (d : Int) (h : Rd w b s p false nv) (hs : s.size ≤ 120) (hp : p ≤ s.size) (hlo : -999 ≤ lo) (hlo2 : lo ≤ 1) (hhi : 1 ≤ hi) (hhi2 : hi ≤ 999) (hat : isAt s p 45 = true) (hneg : lo < 0) (hd : dg s (p + 1) = d) (h1d : d < 0) :
    Calls Tryz.prog 89 #[.pointer (some ⟨b, 0, none⟩), .int .i64 lo, .int .i64 hi] w fun e w' => (∃ v : Int, e = .returned (.int .i64 v)) ∧ Rd w' b s (p + 1) true nv ∧ w.grownBy w' (some b) := by
  go_enter Tryz.func89, Tryz.ntmps89
  go_wp2_with fail
  refine (here_any w b s p false nv 45 45 rfl true h (by simpa using hat)).mono ?_
  rintro e w1 ⟨rfl, n1, rfl⟩
  have h1 := h.drewN n1
  obtain ⟨c0, c1, c2, c3, f1, f2, f3⟩ := h1.cells
  have h2 := h1.setP (p + 1)
  have hg2 : w.grownBy ((w.drewN n1).setCell ⟨b, 1, none⟩ (.int .i64 (p + 1 : Nat))) (some b) := grown_trans (grown_drewN _ _ _) (grown_set _ _ _ _)
  have ecast : ((p + 1 : Nat) : Int) = (p : Int) + 1 := by omega
  rw [ecast] at h2 hg2
  go_wp2_with fail
  refine (digit_any _ b s (p + 1) nv d h2 hd).mono ?_
  rintro e w2 ⟨rfl, n2, rfl⟩
  have h3 := h2.drewN n2
  have hg3 := grown_trans hg2 (grown_drewN _ n2 _)
  obtain ⟨e0, e1, e2, e3, g1, g2, g3⟩ := h3.cells
  go_wp2
  go_ret
  exact ⟨⟨_, rfl⟩, h3.setBad true, grown_trans hg3 (grown_set _ _ _ _)⟩

set_option maxRecDepth 100000 in
set_option maxHeartbeats 1000000 in
theorem numNbad2 (w : World) (b : Nat) (s : ByteArray) (p : Nat) (nv : Value) (lo hi : Int) (d : Int) (h : Rd w b s p false nv) (hs : s.size ≤ 120) (hp : p ≤ s.size) (hlo : -999 ≤ lo) (hlo2 : lo ≤ 1) (hhi : 1 ≤ hi) (hhi2 : hi ≤ 999) (hat : isAt s p 45 = true) (hneg : lo < 0) (hd : dg s (p + 1) = d) (h1d : ¬ d < 0) (h2d : d < 1) :
    Calls Tryz.prog 89 #[.pointer (some ⟨b, 0, none⟩), .int .i64 lo, .int .i64 hi] w fun e w' => (∃ v : Int, e = .returned (.int .i64 v)) ∧ Rd w' b s (p + 1) true nv ∧ w.grownBy w' (some b) := by
  go_enter Tryz.func89, Tryz.ntmps89
  go_wp2_with fail
  refine (here_any w b s p false nv 45 45 rfl true h (by simpa using hat)).mono ?_
  rintro e w1 ⟨rfl, n1, rfl⟩
  have h1 := h.drewN n1
  obtain ⟨c0, c1, c2, c3, f1, f2, f3⟩ := h1.cells
  have h2 := h1.setP (p + 1)
  have hg2 : w.grownBy ((w.drewN n1).setCell ⟨b, 1, none⟩ (.int .i64 (p + 1 : Nat))) (some b) := grown_trans (grown_drewN _ _ _) (grown_set _ _ _ _)
  have ecast : ((p + 1 : Nat) : Int) = (p : Int) + 1 := by omega
  rw [ecast] at h2 hg2
  go_wp2_with fail
  refine (digit_any _ b s (p + 1) nv d h2 hd).mono ?_
  rintro e w2 ⟨rfl, n2, rfl⟩
  have h3 := h2.drewN n2
  have hg3 := grown_trans hg2 (grown_drewN _ n2 _)
  obtain ⟨e0, e1, e2, e3, g1, g2, g3⟩ := h3.cells
  go_wp2
  go_ret
  exact ⟨⟨_, rfl⟩, h3.setBad true, grown_trans hg3 (grown_set _ _ _ _)⟩

set_option maxRecDepth 100000 in
set_option maxHeartbeats 1000000 in
theorem numNbad3 (w : World) (b : Nat) (s : ByteArray) (p : Nat) (nv : Value) (lo hi : Int) (d : Int) (h : Rd w b s p false nv) (hs : s.size ≤ 120) (hp : p ≤ s.size) (hlo : -999 ≤ lo) (hlo2 : lo ≤ 1) (hhi : 1 ≤ hi) (hhi2 : hi ≤ 999) (hat : isAt s p 45 = true) (hneg : lo < 0) (hd : dg s (p + 1) = d) (h1d : ¬ d < 0) (h2d : ¬ d < 1) (h3d : hi < d) :
    Calls Tryz.prog 89 #[.pointer (some ⟨b, 0, none⟩), .int .i64 lo, .int .i64 hi] w fun e w' => (∃ v : Int, e = .returned (.int .i64 v)) ∧ Rd w' b s (p + 1) true nv ∧ w.grownBy w' (some b) := by
  go_enter Tryz.func89, Tryz.ntmps89
  go_wp2_with fail
  refine (here_any w b s p false nv 45 45 rfl true h (by simpa using hat)).mono ?_
  rintro e w1 ⟨rfl, n1, rfl⟩
  have h1 := h.drewN n1
  obtain ⟨c0, c1, c2, c3, f1, f2, f3⟩ := h1.cells
  have h2 := h1.setP (p + 1)
  have hg2 : w.grownBy ((w.drewN n1).setCell ⟨b, 1, none⟩ (.int .i64 (p + 1 : Nat))) (some b) := grown_trans (grown_drewN _ _ _) (grown_set _ _ _ _)
  have ecast : ((p + 1 : Nat) : Int) = (p : Int) + 1 := by omega
  rw [ecast] at h2 hg2
  go_wp2_with fail
  refine (digit_any _ b s (p + 1) nv d h2 hd).mono ?_
  rintro e w2 ⟨rfl, n2, rfl⟩
  have h3 := h2.drewN n2
  have hg3 := grown_trans hg2 (grown_drewN _ n2 _)
  obtain ⟨e0, e1, e2, e3, g1, g2, g3⟩ := h3.cells
  go_wp2
  go_ret
  exact ⟨⟨_, rfl⟩, h3.setBad true, grown_trans hg3 (grown_set _ _ _ _)⟩

set_option maxRecDepth 100000 in
set_option maxHeartbeats 1000000 in
theorem numNok (w : World) (b : Nat) (s : ByteArray) (p : Nat) (nv : Value) (lo hi : Int) (d : Int) (h : Rd w b s p false nv) (hs : s.size ≤ 120) (hp : p ≤ s.size) (hlo : -999 ≤ lo) (hlo2 : lo ≤ 1) (hhi : 1 ≤ hi) (hhi2 : hi ≤ 999) (hat : isAt s p 45 = true) (hneg : lo < 0) (hd : dg s (p + 1) = d) (h1d : ¬ d < 0) (h2d : ¬ d < 1) (h3d : ¬ hi < d) :
    Calls Tryz.prog 89 #[.pointer (some ⟨b, 0, none⟩), .int .i64 lo, .int .i64 hi] w fun e w' => (∃ v : Int, e = .returned (.int .i64 v)) ∧ Rd w' b s (digsAt s hi d ((p + 1) + 1)) false nv ∧ w.grownBy w' (some b) := by
  have hqs : (p + 1) < s.size := dg_lt (by omega)
  go_enter Tryz.func89, Tryz.ntmps89
  go_wp2_with fail
  refine (here_any w b s p false nv 45 45 rfl true h (by simpa using hat)).mono ?_
  rintro e w1 ⟨rfl, n1, rfl⟩
  have h1 := h.drewN n1
  obtain ⟨c0, c1, c2, c3, f1, f2, f3⟩ := h1.cells
  have h2 := h1.setP (p + 1)
  have hg2 : w.grownBy ((w.drewN n1).setCell ⟨b, 1, none⟩ (.int .i64 (p + 1 : Nat))) (some b) := grown_trans (grown_drewN _ _ _) (grown_set _ _ _ _)
  have ecast : ((p + 1 : Nat) : Int) = (p : Int) + 1 := by omega
  rw [ecast] at h2 hg2
  go_wp2_with fail
  refine (digit_any _ b s (p + 1) nv d h2 hd).mono ?_
  rintro e w2 ⟨rfl, n2, rfl⟩
  have h3 := h2.drewN n2
  have hg3 := grown_trans hg2 (grown_drewN _ n2 _)
  obtain ⟨e0, e1, e2, e3, g1, g2, g3⟩ := h3.cells
  have h4 := h3.setP ((p + 1) + 1)
  have hg4 := grown_trans hg3 (grown_set _ b 1 (.int .i64 (((p + 1) + 1 : Nat) : Int)))
  go_wp2
  go_loopw [8, 9] (fun _ t wr => ∃ (n : Int) (r : Nat), t = .int .i64 n ∧ 0 ≤ n ∧ n ≤ 999 ∧ r ≤ s.size ∧ Rd wr b s r false nv ∧ digsAt s hi n r = digsAt s hi d ((p + 1) + 1) ∧ w.grownBy wr (some b)) (fun _ _ wr => s.size - pOf wr b)
  case atStart => exact ⟨d, (p + 1) + 1, rfl, by omega, by omega, by omega, by simpa using h4, rfl, by simpa using hg4⟩
  case round =>
    obtain ⟨n, r, rfl, hn0, hn9, hr, hrd, hdig, hgr⟩ := hrel
    have hbd := dg_le s r
    have HDG : Hid (digsAt s hi n r = digsAt s hi d ((p + 1) + 1)) := hdig
    clear hdig
    generalize hdr : dg s r = dr at *
    have HDR : Hid (dg s r = dr) := hdr
    go_wp2_with fail
    refine (digit_any wr b s r nv dr hrd hdr).mono ?_
    rintro e w5 ⟨rfl, n5, rfl⟩
    have h5 := hrd.drewN n5
    have hg5 := grown_trans hgr (grown_drewN _ n5 _)
    have hpr := pOf_rd hrd
    obtain ⟨k0, k1, k2, k3, l1, l2, l3⟩ := h5.cells
    clear hdr
    by_cases a1 : dr < 0
    · have HS : Hid (digsAt s hi n r = r) := digs_stop (by rw [HDR.out]; omega)
      go_wp2
      all_goals go_ret
      all_goals exact ⟨⟨_, rfl⟩, by rw [← HDG.out, HS.out]; exact h5, hg5⟩
    · by_cases a2 : n = 0
      · have HS : Hid (digsAt s hi n r = r) := digs_stop (by omega)
        have a2b : (n == 0) = true := by simp [a2]
        have HN : Hid (n = 0) := a2
        clear a2
        go_wp2
        all_goals go_ret
        all_goals exact ⟨⟨_, rfl⟩, by rw [← HDG.out, HS.out]; exact h5, hg5⟩
      · have a2b : (n == 0) = false := by simp [a2]
        by_cases a3 : hi < 10 * n + dr
        · have HS : Hid (digsAt s hi n r = r) := digs_stop (by rw [HDR.out]; omega)
          go_wp2
          all_goals go_ret
          all_goals exact ⟨⟨_, rfl⟩, by rw [← HDG.out, HS.out]; exact h5, hg5⟩
        · have HS : Hid (digsAt s hi n r = digsAt s hi (10 * n + dr) (r + 1)) := by
            show _ = _
            rw [← HDR.out]; exact digs_go (by rw [HDR.out]; omega)
          have hrs : r < s.size := dg_lt (by rw [HDR.out]; omega)
          have h6 := h5.setP (r + 1)
          have hg6 := grown_trans hg5 (grown_set _ b 1 (.int .i64 ((r + 1 : Nat) : Int)))
          have hp6 := pOf_rd h6
          have ecast : ((r + 1 : Nat) : Int) = (r : Int) + 1 := by omega
          rw [ecast] at h6 hg6 hp6
          go_wp2
          exact ⟨⟨10 * n + dr, r + 1, rfl, by omega, by omega, by omega, h6, by rw [← HS.out]; exact HDG.out, hg6⟩, by rw [hp6, hpr]; omega⟩

set_option maxRecDepth 100000 in
set_option maxHeartbeats 1000000 in
theorem numAbad1 (w : World) (b : Nat) (s : ByteArray) (p : Nat) (nv : Value) (lo hi : Int) (d : Int) (h : Rd w b s p false nv) (hs : s.size ≤ 120) (hp : p ≤ s.size) (hlo : -999 ≤ lo) (hlo2 : lo ≤ 1) (hhi : 1 ≤ hi) (hhi2 : hi ≤ 999) (hat : isAt s p 45 = false) (hd : dg s p = d) (h1d : d < 0) :
    Calls Tryz.prog 89 #[.pointer (some ⟨b, 0, none⟩), .int .i64 lo, .int .i64 hi] w fun e w' => (∃ v : Int, e = .returned (.int .i64 v)) ∧ Rd w' b s p true nv ∧ w.grownBy w' (some b) := by
  go_enter Tryz.func89, Tryz.ntmps89
  go_wp2_with fail
  refine (here_any w b s p false nv 45 45 rfl false h (by simpa using hat)).mono ?_
  rintro e w1 ⟨rfl, n1, rfl⟩
  have h1 := h.drewN n1
  obtain ⟨c0, c1, c2, c3, f1, f2, f3⟩ := h1.cells
  have h2 := h1
  have hg2 : w.grownBy (w.drewN n1) (some b) := grown_drewN _ _ _
  go_wp2_with fail
  refine (digit_any _ b s p nv d h2 hd).mono ?_
  rintro e w2 ⟨rfl, n2, rfl⟩
  have h3 : Rd (w.drewN (n1 + n2)) b s p false nv := h
  have hg3 : w.grownBy (w.drewN (n1 + n2)) (some b) := grown_drewN _ _ _
  obtain ⟨e0, e1, e2, e3, g1, g2, g3⟩ := h3.cells
  go_wp2
  go_ret
  exact ⟨⟨_, rfl⟩, h3.setBad true, grown_trans hg3 (grown_set _ _ _ _)⟩

set_option maxRecDepth 100000 in
set_option maxHeartbeats 1000000 in
theorem numAbad2 (w : World) (b : Nat) (s : ByteArray) (p : Nat) (nv : Value) (lo hi : Int) (d : Int) (h : Rd w b s p false nv) (hs : s.size ≤ 120) (hp : p ≤ s.size) (hlo : -999 ≤ lo) (hlo2 : lo ≤ 1) (hhi : 1 ≤ hi) (hhi2 : hi ≤ 999) (hat : isAt s p 45 = false) (hd : dg s p = d) (h1d : ¬ d < 0) (h2d : d < lo) :
    Calls Tryz.prog 89 #[.pointer (some ⟨b, 0, none⟩), .int .i64 lo, .int .i64 hi] w fun e w' => (∃ v : Int, e = .returned (.int .i64 v)) ∧ Rd w' b s p true nv ∧ w.grownBy w' (some b) := by
  go_enter Tryz.func89, Tryz.ntmps89
  go_wp2_with fail
  refine (here_any w b s p false nv 45 45 rfl false h (by simpa using hat)).mono ?_
  rintro e w1 ⟨rfl, n1, rfl⟩
  have h1 := h.drewN n1
  obtain ⟨c0, c1, c2, c3, f1, f2, f3⟩ := h1.cells
  have h2 := h1
  have hg2 : w.grownBy (w.drewN n1) (some b) := grown_drewN _ _ _
  go_wp2_with fail
  refine (digit_any _ b s p nv d h2 hd).mono ?_
  rintro e w2 ⟨rfl, n2, rfl⟩
  have h3 : Rd (w.drewN (n1 + n2)) b s p false nv := h
  have hg3 : w.grownBy (w.drewN (n1 + n2)) (some b) := grown_drewN _ _ _
  obtain ⟨e0, e1, e2, e3, g1, g2, g3⟩ := h3.cells
  go_wp2
  go_ret
  exact ⟨⟨_, rfl⟩, h3.setBad true, grown_trans hg3 (grown_set _ _ _ _)⟩

set_option maxRecDepth 100000 in
set_option maxHeartbeats 1000000 in
theorem numAbad3 (w : World) (b : Nat) (s : ByteArray) (p : Nat) (nv : Value) (lo hi : Int) (d : Int) (h : Rd w b s p false nv) (hs : s.size ≤ 120) (hp : p ≤ s.size) (hlo : -999 ≤ lo) (hlo2 : lo ≤ 1) (hhi : 1 ≤ hi) (hhi2 : hi ≤ 999) (hat : isAt s p 45 = false) (hd : dg s p = d) (h1d : ¬ d < 0) (h2d : ¬ d < lo) (h3d : hi < d) :
    Calls Tryz.prog 89 #[.pointer (some ⟨b, 0, none⟩), .int .i64 lo, .int .i64 hi] w fun e w' => (∃ v : Int, e = .returned (.int .i64 v)) ∧ Rd w' b s p true nv ∧ w.grownBy w' (some b) := by
  go_enter Tryz.func89, Tryz.ntmps89
  go_wp2_with fail
  refine (here_any w b s p false nv 45 45 rfl false h (by simpa using hat)).mono ?_
  rintro e w1 ⟨rfl, n1, rfl⟩
  have h1 := h.drewN n1
  obtain ⟨c0, c1, c2, c3, f1, f2, f3⟩ := h1.cells
  have h2 := h1
  have hg2 : w.grownBy (w.drewN n1) (some b) := grown_drewN _ _ _
  go_wp2_with fail
  refine (digit_any _ b s p nv d h2 hd).mono ?_
  rintro e w2 ⟨rfl, n2, rfl⟩
  have h3 : Rd (w.drewN (n1 + n2)) b s p false nv := h
  have hg3 : w.grownBy (w.drewN (n1 + n2)) (some b) := grown_drewN _ _ _
  obtain ⟨e0, e1, e2, e3, g1, g2, g3⟩ := h3.cells
  go_wp2
  go_ret
  exact ⟨⟨_, rfl⟩, h3.setBad true, grown_trans hg3 (grown_set _ _ _ _)⟩

set_option maxRecDepth 100000 in
set_option maxHeartbeats 1000000 in
theorem numAok (w : World) (b : Nat) (s : ByteArray) (p : Nat) (nv : Value) (lo hi : Int) (d : Int) (h : Rd w b s p false nv) (hs : s.size ≤ 120) (hp : p ≤ s.size) (hlo : -999 ≤ lo) (hlo2 : lo ≤ 1) (hhi : 1 ≤ hi) (hhi2 : hi ≤ 999) (hat : isAt s p 45 = false) (hd : dg s p = d) (h1d : ¬ d < 0) (h2d : ¬ d < lo) (h3d : ¬ hi < d) :
    Calls Tryz.prog 89 #[.pointer (some ⟨b, 0, none⟩), .int .i64 lo, .int .i64 hi] w fun e w' => (∃ v : Int, e = .returned (.int .i64 v)) ∧ Rd w' b s (digsAt s hi d (p + 1)) false nv ∧ w.grownBy w' (some b) := by
  have hqs : p < s.size := dg_lt (by omega)
  go_enter Tryz.func89, Tryz.ntmps89
  go_wp2_with fail
  refine (here_any w b s p false nv 45 45 rfl false h (by simpa using hat)).mono ?_
  rintro e w1 ⟨rfl, n1, rfl⟩
  have h1 := h.drewN n1
  obtain ⟨c0, c1, c2, c3, f1, f2, f3⟩ := h1.cells
  have h2 := h1
  have hg2 : w.grownBy (w.drewN n1) (some b) := grown_drewN _ _ _
  go_wp2_with fail
  refine (digit_any _ b s p nv d h2 hd).mono ?_
  rintro e w2 ⟨rfl, n2, rfl⟩
  have h3 : Rd (w.drewN (n1 + n2)) b s p false nv := h
  have hg3 : w.grownBy (w.drewN (n1 + n2)) (some b) := grown_drewN _ _ _
  obtain ⟨e0, e1, e2, e3, g1, g2, g3⟩ := h3.cells
  have h4 := h3.setP (p + 1)
  have hg4 := grown_trans hg3 (grown_set _ b 1 (.int .i64 ((p + 1 : Nat) : Int)))
  go_wp2
  go_loopw [8, 9] (fun _ t wr => ∃ (n : Int) (r : Nat), t = .int .i64 n ∧ 0 ≤ n ∧ n ≤ 999 ∧ r ≤ s.size ∧ Rd wr b s r false nv ∧ digsAt s hi n r = digsAt s hi d (p + 1) ∧ w.grownBy wr (some b)) (fun _ _ wr => s.size - pOf wr b)
  case atStart => exact ⟨d, p + 1, rfl, by omega, by omega, by omega, by simpa using h4, rfl, by simpa using hg4⟩
  case round =>
    obtain ⟨n, r, rfl, hn0, hn9, hr, hrd, hdig, hgr⟩ := hrel
    have hbd := dg_le s r
    have HDG : Hid (digsAt s hi n r = digsAt s hi d (p + 1)) := hdig
    clear hdig
    generalize hdr : dg s r = dr at *
    have HDR : Hid (dg s r = dr) := hdr
    go_wp2_with fail
    refine (digit_any wr b s r nv dr hrd hdr).mono ?_
    rintro e w5 ⟨rfl, n5, rfl⟩
    have h5 := hrd.drewN n5
    have hg5 := grown_trans hgr (grown_drewN _ n5 _)
    have hpr := pOf_rd hrd
    obtain ⟨k0, k1, k2, k3, l1, l2, l3⟩ := h5.cells
    clear hdr
    by_cases a1 : dr < 0
    · have HS : Hid (digsAt s hi n r = r) := digs_stop (by rw [HDR.out]; omega)
      go_wp2
      all_goals go_ret
      all_goals exact ⟨⟨_, rfl⟩, by rw [← HDG.out, HS.out]; exact h5, hg5⟩
    · by_cases a2 : n = 0
      · have HS : Hid (digsAt s hi n r = r) := digs_stop (by omega)
        have a2b : (n == 0) = true := by simp [a2]
        have HN : Hid (n = 0) := a2
        clear a2
        go_wp2
        all_goals go_ret
        all_goals exact ⟨⟨_, rfl⟩, by rw [← HDG.out, HS.out]; exact h5, hg5⟩
      · have a2b : (n == 0) = false := by simp [a2]
        by_cases a3 : hi < 10 * n + dr
        · have HS : Hid (digsAt s hi n r = r) := digs_stop (by rw [HDR.out]; omega)
          go_wp2
          all_goals go_ret
          all_goals exact ⟨⟨_, rfl⟩, by rw [← HDG.out, HS.out]; exact h5, hg5⟩
        · have HS : Hid (digsAt s hi n r = digsAt s hi (10 * n + dr) (r + 1)) := by
            show _ = _
            rw [← HDR.out]; exact digs_go (by rw [HDR.out]; omega)
          have hrs : r < s.size := dg_lt (by rw [HDR.out]; omega)
          have h6 := h5.setP (r + 1)
          have hg6 := grown_trans hg5 (grown_set _ b 1 (.int .i64 ((r + 1 : Nat) : Int)))
          have hp6 := pOf_rd h6
          have ecast : ((r + 1 : Nat) : Int) = (r : Int) + 1 := by omega
          rw [ecast] at h6 hg6 hp6
          go_wp2
          exact ⟨⟨10 * n + dr, r + 1, rfl, by omega, by omega, by omega, h6, by rw [← HS.out]; exact HDG.out, hg6⟩, by rw [hp6, hpr]; omega⟩

set_option maxRecDepth 100000 in
set_option maxHeartbeats 1000000 in
theorem numBbad1 (w : World) (b : Nat) (s : ByteArray) (p : Nat) (nv : Value) (lo hi : Int) (d : Int) (h : Rd w b s p false nv) (hs : s.size ≤ 120) (hp : p ≤ s.size) (hlo : -999 ≤ lo) (hlo2 : lo ≤ 1) (hhi : 1 ≤ hi) (hhi2 : hi ≤ 999) (hat : isAt s p 45 = true) (hneg : ¬ lo < 0) (hd : dg s p = d) (h1d : d < 0) :
    Calls Tryz.prog 89 #[.pointer (some ⟨b, 0, none⟩), .int .i64 lo, .int .i64 hi] w fun e w' => (∃ v : Int, e = .returned (.int .i64 v)) ∧ Rd w' b s p true nv ∧ w.grownBy w' (some b) := by
  go_enter Tryz.func89, Tryz.ntmps89
  go_wp2_with fail
  refine (here_any w b s p false nv 45 45 rfl true h (by simpa using hat)).mono ?_
  rintro e w1 ⟨rfl, n1, rfl⟩
  have h1 := h.drewN n1
  obtain ⟨c0, c1, c2, c3, f1, f2, f3⟩ := h1.cells
  have h2 := h1
  have hg2 : w.grownBy (w.drewN n1) (some b) := grown_drewN _ _ _
  go_wp2_with fail
  refine (digit_any _ b s p nv d h2 hd).mono ?_
  rintro e w2 ⟨rfl, n2, rfl⟩
  have h3 : Rd (w.drewN (n1 + n2)) b s p false nv := h
  have hg3 : w.grownBy (w.drewN (n1 + n2)) (some b) := grown_drewN _ _ _
  obtain ⟨e0, e1, e2, e3, g1, g2, g3⟩ := h3.cells
  go_wp2
  go_ret
  exact ⟨⟨_, rfl⟩, h3.setBad true, grown_trans hg3 (grown_set _ _ _ _)⟩

set_option maxRecDepth 100000 in
set_option maxHeartbeats 1000000 in
theorem numBbad2 (w : World) (b : Nat) (s : ByteArray) (p : Nat) (nv : Value) (lo hi : Int) (d : Int) (h : Rd w b s p false nv) (hs : s.size ≤ 120) (hp : p ≤ s.size) (hlo : -999 ≤ lo) (hlo2 : lo ≤ 1) (hhi : 1 ≤ hi) (hhi2 : hi ≤ 999) (hat : isAt s p 45 = true) (hneg : ¬ lo < 0) (hd : dg s p = d) (h1d : ¬ d < 0) (h2d : d < lo) :
    Calls Tryz.prog 89 #[.pointer (some ⟨b, 0, none⟩), .int .i64 lo, .int .i64 hi] w fun e w' => (∃ v : Int, e = .returned (.int .i64 v)) ∧ Rd w' b s p true nv ∧ w.grownBy w' (some b) := by
  go_enter Tryz.func89, Tryz.ntmps89
  go_wp2_with fail
  refine (here_any w b s p false nv 45 45 rfl true h (by simpa using hat)).mono ?_
  rintro e w1 ⟨rfl, n1, rfl⟩
  have h1 := h.drewN n1
  obtain ⟨c0, c1, c2, c3, f1, f2, f3⟩ := h1.cells
  have h2 := h1
  have hg2 : w.grownBy (w.drewN n1) (some b) := grown_drewN _ _ _
  go_wp2_with fail
  refine (digit_any _ b s p nv d h2 hd).mono ?_
  rintro e w2 ⟨rfl, n2, rfl⟩
  have h3 : Rd (w.drewN (n1 + n2)) b s p false nv := h
  have hg3 : w.grownBy (w.drewN (n1 + n2)) (some b) := grown_drewN _ _ _
  obtain ⟨e0, e1, e2, e3, g1, g2, g3⟩ := h3.cells
  go_wp2
  go_ret
  exact ⟨⟨_, rfl⟩, h3.setBad true, grown_trans hg3 (grown_set _ _ _ _)⟩

set_option maxRecDepth 100000 in
set_option maxHeartbeats 1000000 in
theorem numBbad3 (w : World) (b : Nat) (s : ByteArray) (p : Nat) (nv : Value) (lo hi : Int) (d : Int) (h : Rd w b s p false nv) (hs : s.size ≤ 120) (hp : p ≤ s.size) (hlo : -999 ≤ lo) (hlo2 : lo ≤ 1) (hhi : 1 ≤ hi) (hhi2 : hi ≤ 999) (hat : isAt s p 45 = true) (hneg : ¬ lo < 0) (hd : dg s p = d) (h1d : ¬ d < 0) (h2d : ¬ d < lo) (h3d : hi < d) :
    Calls Tryz.prog 89 #[.pointer (some ⟨b, 0, none⟩), .int .i64 lo, .int .i64 hi] w fun e w' => (∃ v : Int, e = .returned (.int .i64 v)) ∧ Rd w' b s p true nv ∧ w.grownBy w' (some b) := by
  go_enter Tryz.func89, Tryz.ntmps89
  go_wp2_with fail
  refine (here_any w b s p false nv 45 45 rfl true h (by simpa using hat)).mono ?_
  rintro e w1 ⟨rfl, n1, rfl⟩
  have h1 := h.drewN n1
  obtain ⟨c0, c1, c2, c3, f1, f2, f3⟩ := h1.cells
  have h2 := h1
  have hg2 : w.grownBy (w.drewN n1) (some b) := grown_drewN _ _ _
  go_wp2_with fail
  refine (digit_any _ b s p nv d h2 hd).mono ?_
  rintro e w2 ⟨rfl, n2, rfl⟩
  have h3 : Rd (w.drewN (n1 + n2)) b s p false nv := h
  have hg3 : w.grownBy (w.drewN (n1 + n2)) (some b) := grown_drewN _ _ _
  obtain ⟨e0, e1, e2, e3, g1, g2, g3⟩ := h3.cells
  go_wp2
  go_ret
  exact ⟨⟨_, rfl⟩, h3.setBad true, grown_trans hg3 (grown_set _ _ _ _)⟩

set_option maxRecDepth 100000 in
set_option maxHeartbeats 1000000 in
theorem numBok (w : World) (b : Nat) (s : ByteArray) (p : Nat) (nv : Value) (lo hi : Int) (d : Int) (h : Rd w b s p false nv) (hs : s.size ≤ 120) (hp : p ≤ s.size) (hlo : -999 ≤ lo) (hlo2 : lo ≤ 1) (hhi : 1 ≤ hi) (hhi2 : hi ≤ 999) (hat : isAt s p 45 = true) (hneg : ¬ lo < 0) (hd : dg s p = d) (h1d : ¬ d < 0) (h2d : ¬ d < lo) (h3d : ¬ hi < d) :
    Calls Tryz.prog 89 #[.pointer (some ⟨b, 0, none⟩), .int .i64 lo, .int .i64 hi] w fun e w' => (∃ v : Int, e = .returned (.int .i64 v)) ∧ Rd w' b s (digsAt s hi d (p + 1)) false nv ∧ w.grownBy w' (some b) := by
  have hqs : p < s.size := dg_lt (by omega)
  go_enter Tryz.func89, Tryz.ntmps89
  go_wp2_with fail
  refine (here_any w b s p false nv 45 45 rfl true h (by simpa using hat)).mono ?_
  rintro e w1 ⟨rfl, n1, rfl⟩
  have h1 := h.drewN n1
  obtain ⟨c0, c1, c2, c3, f1, f2, f3⟩ := h1.cells
  have h2 := h1
  have hg2 : w.grownBy (w.drewN n1) (some b) := grown_drewN _ _ _
  go_wp2_with fail
  refine (digit_any _ b s p nv d h2 hd).mono ?_
  rintro e w2 ⟨rfl, n2, rfl⟩
  have h3 : Rd (w.drewN (n1 + n2)) b s p false nv := h
  have hg3 : w.grownBy (w.drewN (n1 + n2)) (some b) := grown_drewN _ _ _
  obtain ⟨e0, e1, e2, e3, g1, g2, g3⟩ := h3.cells
  have h4 := h3.setP (p + 1)
  have hg4 := grown_trans hg3 (grown_set _ b 1 (.int .i64 ((p + 1 : Nat) : Int)))
  go_wp2
  go_loopw [8, 9] (fun _ t wr => ∃ (n : Int) (r : Nat), t = .int .i64 n ∧ 0 ≤ n ∧ n ≤ 999 ∧ r ≤ s.size ∧ Rd wr b s r false nv ∧ digsAt s hi n r = digsAt s hi d (p + 1) ∧ w.grownBy wr (some b)) (fun _ _ wr => s.size - pOf wr b)
  case atStart => exact ⟨d, p + 1, rfl, by omega, by omega, by omega, by simpa using h4, rfl, by simpa using hg4⟩
  case round =>
    obtain ⟨n, r, rfl, hn0, hn9, hr, hrd, hdig, hgr⟩ := hrel
    have hbd := dg_le s r
    have HDG : Hid (digsAt s hi n r = digsAt s hi d (p + 1)) := hdig
    clear hdig
    generalize hdr : dg s r = dr at *
    have HDR : Hid (dg s r = dr) := hdr
    go_wp2_with fail
    refine (digit_any wr b s r nv dr hrd hdr).mono ?_
    rintro e w5 ⟨rfl, n5, rfl⟩
    have h5 := hrd.drewN n5
    have hg5 := grown_trans hgr (grown_drewN _ n5 _)
    have hpr := pOf_rd hrd
    obtain ⟨k0, k1, k2, k3, l1, l2, l3⟩ := h5.cells
    clear hdr
    by_cases a1 : dr < 0
    · have HS : Hid (digsAt s hi n r = r) := digs_stop (by rw [HDR.out]; omega)
      go_wp2
      all_goals go_ret
      all_goals exact ⟨⟨_, rfl⟩, by rw [← HDG.out, HS.out]; exact h5, hg5⟩
    · by_cases a2 : n = 0
      · have HS : Hid (digsAt s hi n r = r) := digs_stop (by omega)
        have a2b : (n == 0) = true := by simp [a2]
        have HN : Hid (n = 0) := a2
        clear a2
        go_wp2
        all_goals go_ret
        all_goals exact ⟨⟨_, rfl⟩, by rw [← HDG.out, HS.out]; exact h5, hg5⟩
      · have a2b : (n == 0) = false := by simp [a2]
        by_cases a3 : hi < 10 * n + dr
        · have HS : Hid (digsAt s hi n r = r) := digs_stop (by rw [HDR.out]; omega)
          go_wp2
          all_goals go_ret
          all_goals exact ⟨⟨_, rfl⟩, by rw [← HDG.out, HS.out]; exact h5, hg5⟩
        · have HS : Hid (digsAt s hi n r = digsAt s hi (10 * n + dr) (r + 1)) := by
            show _ = _
            rw [← HDR.out]; exact digs_go (by rw [HDR.out]; omega)
          have hrs : r < s.size := dg_lt (by rw [HDR.out]; omega)
          have h6 := h5.setP (r + 1)
          have hg6 := grown_trans hg5 (grown_set _ b 1 (.int .i64 ((r + 1 : Nat) : Int)))
          have hp6 := pOf_rd h6
          have ecast : ((r + 1 : Nat) : Int) = (r : Int) + 1 := by omega
          rw [ecast] at h6 hg6 hp6
          go_wp2
          exact ⟨⟨10 * n + dr, r + 1, rfl, by omega, by omega, by omega, h6, by rw [← HS.out]; exact HDG.out, hg6⟩, by rw [hp6, hpr]; omega⟩

/-- What a number's reading comes to: is it none?, and the place. -/
def numSpec (s : ByteArray) (lo hi : Int) (p : Nat) : Bool × Nat :=
  if dg s (numAt s lo p) < 0 ∨ dg s (numAt s lo p) < numLo s lo p ∨ hi < dg s (numAt s lo p) then (true, numAt s lo p) else (false, numEnd s lo hi p)
theorem number_any (w : World) (b : Nat) (s : ByteArray) (p : Nat) (nv : Value) (lo hi : Int) (h : Rd w b s p false nv) (hs : s.size ≤ 120) (hp : p ≤ s.size) (hlo : -999 ≤ lo) (hlo2 : lo ≤ 1) (hhi : 1 ≤ hi) (hhi2 : hi ≤ 999) :
    Calls Tryz.prog 89 #[.pointer (some ⟨b, 0, none⟩), .int .i64 lo, .int .i64 hi] w fun e w' => (∃ v : Int, e = .returned (.int .i64 v)) ∧ Rd w' b s (numSpec s lo hi p).2 (numSpec s lo hi p).1 nv ∧ w.grownBy w' (some b) := by
  unfold numSpec numEnd numAt numLo numNeg
  cases hat : isAt s p 45
  · simp only [Bool.false_and, Bool.false_eq_true, if_false]
    generalize hd : dg s p = d
    by_cases h1 : d < 0
    · rw [if_pos (Or.inl h1)]; exact numAbad1 w b s p nv lo hi d h hs hp hlo hlo2 hhi hhi2 hat hd h1
    · by_cases h2 : d < lo
      · rw [if_pos (Or.inr (Or.inl h2))]; exact numAbad2 w b s p nv lo hi d h hs hp hlo hlo2 hhi hhi2 hat hd h1 h2
      · by_cases h3 : hi < d
        · rw [if_pos (Or.inr (Or.inr h3))]; exact numAbad3 w b s p nv lo hi d h hs hp hlo hlo2 hhi hhi2 hat hd h1 h2 h3
        · rw [if_neg (by omega)]; exact numAok w b s p nv lo hi d h hs hp hlo hlo2 hhi hhi2 hat hd h1 h2 h3
  · by_cases hneg : lo < 0
    · simp only [hneg, decide_true, Bool.and_self, if_true]
      generalize hd : dg s (p + 1) = d
      by_cases h1 : d < 0
      · rw [if_pos (Or.inl h1)]; exact numNbad1 w b s p nv lo hi d h hs hp hlo hlo2 hhi hhi2 hat hneg hd h1
      · by_cases h2 : d < 1
        · rw [if_pos (Or.inr (Or.inl h2))]; exact numNbad2 w b s p nv lo hi d h hs hp hlo hlo2 hhi hhi2 hat hneg hd h1 h2
        · by_cases h3 : hi < d
          · rw [if_pos (Or.inr (Or.inr h3))]; exact numNbad3 w b s p nv lo hi d h hs hp hlo hlo2 hhi hhi2 hat hneg hd h1 h2 h3
          · rw [if_neg (by omega)]; exact numNok w b s p nv lo hi d h hs hp hlo hlo2 hhi hhi2 hat hneg hd h1 h2 h3
    · simp only [hneg, decide_false, Bool.and_false, Bool.false_eq_true, if_false]
      generalize hd : dg s p = d
      by_cases h1 : d < 0
      · rw [if_pos (Or.inl h1)]; exact numBbad1 w b s p nv lo hi d h hs hp hlo hlo2 hhi hhi2 hat hneg hd h1
      · by_cases h2 : d < lo
        · rw [if_pos (Or.inr (Or.inl h2))]; exact numBbad2 w b s p nv lo hi d h hs hp hlo hlo2 hhi hhi2 hat hneg hd h1 h2
        · by_cases h3 : hi < d
          · rw [if_pos (Or.inr (Or.inr h3))]; exact numBbad3 w b s p nv lo hi d h hs hp hlo hlo2 hhi hhi2 hat hneg hd h1 h2 h3
          · rw [if_neg (by omega)]; exact numBok w b s p nv lo hi d h hs hp hlo hlo2 hhi hhi2 hat hneg hd h1 h2 h3
end Go.Proofs.YtdfkjgogdbeokaaGreatDoor
