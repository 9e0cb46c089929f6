/-
  DERIVED. (*finds).fault and flow.Tell at the seven errors (Tell by a walk).
-/
import Derived.Test.YtfjdogpjckipbaaDoorFromB
namespace Go.Proofs.YtfjdogpjckipbaaDoor
open Go.RowKit Go.Extern.Stop Go.Stop Go.Extern

theorem three {w : World} {b : Nat} {x0 x1 x2 y0 y1 y2 : Value} (c0 : w.cell? ⟨b, 0, none⟩ = some x0) (c1 : w.cell? ⟨b, 1, none⟩ = some x1) (c2 : w.cell? ⟨b, 2, none⟩ = some x2) :
    (((w.setCell ⟨b, 0, none⟩ y0).setCell ⟨b, 1, none⟩ y1).setCell ⟨b, 2, none⟩ y2).cell? ⟨b, 0, none⟩ = some y0 ∧
    (((w.setCell ⟨b, 0, none⟩ y0).setCell ⟨b, 1, none⟩ y1).setCell ⟨b, 2, none⟩ y2).cell? ⟨b, 1, none⟩ = some y1 ∧
    (((w.setCell ⟨b, 0, none⟩ y0).setCell ⟨b, 1, none⟩ y1).setCell ⟨b, 2, none⟩ y2).cell? ⟨b, 2, none⟩ = some y2 := by
  refine ⟨?_, ?_, ?_⟩
  · rw [World.cell?_setCell_other _ _ _ _ (by simp), World.cell?_setCell_other _ _ _ _ (by simp)]; exact World.cell?_setCell_same _ _ _ c0
  · rw [World.cell?_setCell_other _ _ _ _ (by simp)]; exact World.cell?_setCell_same _ _ _ (by rw [World.cell?_setCell_other _ _ _ _ (by simp)]; exact c1)
  · exact World.cell?_setCell_same _ _ _ (by rw [World.cell?_setCell_other _ _ _ _ (by simp), World.cell?_setCell_other _ _ _ _ (by simp)]; exact c2)

set_option maxHeartbeats 1000000 in
theorem fault_b {w : World} (f : Nat) (n : Int) (hF : Fd w f n) :
    Calls Tryd.prog 14 #[.pointer (some ⟨f, 0, none⟩)] w fun e w' => e = .returned (.agg #[.int .i64 n, .int .i64 0, .string ⟨#[]⟩]) ∧ Below w.heap.size w w' := by
  have hl := hF.lt
  have c0 : w.cell? ⟨f, 0, none⟩ = some (.int .i64 n) := by unfold Fd at hF; simp [World.cell?, hF]
  have c1 : w.cell? ⟨f, 1, none⟩ = some (.pointer none) := by unfold Fd at hF; simp [World.cell?, hF]
  have c2 : w.cell? ⟨f, 2, none⟩ = some (.pointer none) := by unfold Fd at hF; simp [World.cell?, hF]
  go_enter Tryd.func14, Tryd.ntmps14
  go_wp2
  refine bodyPost_ret (v := .agg #[.int .i64 n, .int .i64 0, .string ⟨#[]⟩]) (by simp [results, Tryd.results14, go_sem]) rfl ⟨rfl, ?_⟩
  exact (Below.refl _ _).alloc (Nat.le_refl _) _

set_option maxHeartbeats 1000000 in
theorem tell_of (k : Nat) (n : Int) (hn8 : n < 8) {a : Nat → Addr} {w : World} (h : Sents a w)
    (hn : ∀ w1, Sents a w1 → Calls Tryd.prog 81 #[.iface 167 (.pointer (some (a k)))] w1 fun e w' => e = .returned (.int .i64 n) ∧ Below w1.heap.size w1 w') :
    Calls Tryd.prog 8 #[.iface 167 (.pointer (some (a k)))] w fun e w' => e = .returned (.agg #[.int .i64 n, .int .i64 0, .string ⟨#[]⟩]) ∧ Below w.heap.size w w' := by
  go_enter Tryd.func8, Tryd.ntmps8
  go_wp2_with fail
  have hb0 : Below w.heap.size w ((w.alloc (.cells #[.int .i64 0, .int .i64 0, .string ⟨#[]⟩] 34)).alloc (.cells #[.int .i64 8, .pointer none, .pointer none] 53)) := ((Below.refl _ _).alloc (Nat.le_refl _) _).alloc (by simp) _
  have hF0 : Fd ((w.alloc (.cells #[.int .i64 0, .int .i64 0, .string ⟨#[]⟩] 34)).alloc (.cells #[.int .i64 8, .pointer none, .pointer none] 53)) (w.heap.size + 1) 8 := by
    unfold Fd
    have e : ∀ (v : World) (x : Obj), (v.alloc x).heap[v.heap.size]? = some x := fun v x => by
      show (v.heap.push x)[v.heap.size]? = some x
      simp
    have e1 : w.heap.size + 1 = (w.alloc (.cells #[.int .i64 0, .int .i64 0, .string ⟨#[]⟩] 34)).heap.size := by simp
    rw [e1]
    exact e _ _
  refine (from_b k (w.heap.size + 1) (w.heap.size + 1) n (h.below hb0) hF0 hn8 (Nat.le_refl _) hn).mono ?_
  rintro e w2 ⟨rfl, hF2, hb2⟩
  go_wp2_with fail
  refine (fault_b (w.heap.size + 1) n hF2).mono ?_
  rintro e w3 ⟨rfl, hb3⟩
  have hz2 : w.heap.size + 2 ≤ w2.heap.size := by have := hb2.size; simp at this; omega
  have hb := hb2.trans (hb3.mono (by omega))
  have hc : ∀ o, w3.cell? ⟨w.heap.size, o, none⟩ = _ := fun o => hb.cell (p := ⟨w.heap.size, o, none⟩) (by simp)
  have hf : ∀ o, w3.frozen? ⟨w.heap.size, o, none⟩ = _ := fun o => hb.frozen (p := ⟨w.heap.size, o, none⟩) (by simp)
  have c0 : w3.cell? ⟨w.heap.size, 0, none⟩ = some (.int .i64 0) := by rw [hc]; simp [go_sem]
  have c1 : w3.cell? ⟨w.heap.size, 1, none⟩ = some (.int .i64 0) := by rw [hc]; simp [go_sem]
  have c2 : w3.cell? ⟨w.heap.size, 2, none⟩ = some (.string ⟨#[]⟩) := by rw [hc]; simp [go_sem]
  have f0 : w3.frozen? ⟨w.heap.size, 0, none⟩ = false := by rw [hf]; simp [go_sem]
  have f1 : w3.frozen? ⟨w.heap.size, 1, none⟩ = false := by rw [hf]; simp [go_sem]
  have f2 : w3.frozen? ⟨w.heap.size, 2, none⟩ = false := by rw [hf]; simp [go_sem]
  have hz : w.heap.size < w3.heap.size := by have := hb3.size; omega
  clear hc hf
  go_wp2
  obtain ⟨q0, q1, q2⟩ := three (y0 := .int .i64 n) (y1 := .int .i64 0) (y2 := .string ⟨#[]⟩) c0 c1 c2
  refine bodyPost_ret (v := .agg #[.int .i64 n, .int .i64 0, .string ⟨#[]⟩]) (by simp [results, Tryd.results8, go_sem, q0, q1, q2]) rfl ⟨rfl, ?_⟩
  exact (((hb0.trans (hb.mono (by omega))).setCell (by simp) _).setCell (by simp) _).setCell (by simp) _

/-- flow.Tell at the i-th of the seven errors. -/
theorem tell_sents {a : Nat → Addr} {w : World} (h : Sents a w) (i : Nat) (hi : i < 7) :
    Calls Tryd.prog 8 #[.iface 167 (.pointer (some (a i)))] w fun e w' => e = .returned (.agg #[.int .i64 ((i : Int) + 1), .int .i64 0, .string ⟨#[]⟩]) ∧ Below w.heap.size w w' := by
  have hcase : i = 0 ∨ i = 1 ∨ i = 2 ∨ i = 3 ∨ i = 4 ∨ i = 5 ∨ i = 6 := by omega
  rcases hcase with rfl | rfl | rfl | rfl | rfl | rfl | rfl
  · exact tell_of 0 _ (by decide) h fun w1 h1 => number_0 h1
  · exact tell_of 1 _ (by decide) h fun w1 h1 => number_1 h1
  · exact tell_of 2 _ (by decide) h fun w1 h1 => number_2 h1
  · exact tell_of 3 _ (by decide) h fun w1 h1 => number_3 h1
  · exact tell_of 4 _ (by decide) h fun w1 h1 => number_4 h1
  · exact tell_of 5 _ (by decide) h fun w1 h1 => number_5 h1
  · exact tell_of 6 _ (by decide) h fun w1 h1 => number_6 h1
end Go.Proofs.YtfjdogpjckipbaaDoor
