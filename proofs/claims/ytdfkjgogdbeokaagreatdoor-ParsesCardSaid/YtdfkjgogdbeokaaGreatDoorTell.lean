/-
  DERIVED. flow.placeOf and flow.Tell at the seven errors.
-/
import Derived.Test.YtdfkjgogdbeokaaGreatDoorAsSt
import Derived.Test.YtdfkjgogdbeokaaGreatDoorAsSy
import Derived.Test.YtdfkjgogdbeokaaGreatDoorWrap
import Derived.Test.YtdfkjgogdbeokaaGreatDoorNum
namespace Go.Proofs.YtdfkjgogdbeokaaGreatDoor
open Go.RowKit Go.Extern.Stop Go.Stop Go.Extern

set_option maxHeartbeats 1000000 in
theorem place_sent (a : Addr) (w : World) (hg : EtCell w) :
    Calls Tryz.prog 67 #[.iface 241 (.pointer (some a))] w fun e w' => e = .returned (.tuple #[.int .i64 0, .string ⟨#[]⟩]) ∧ Below w.heap.size w w' := by
  have hmf : ∀ (fn : Fn) (first cap : Array Value) (w : World), (Instr.makeFunc fn first cap).run Tryz.prog w = .ok (.func fn first cap) w := fun _ _ _ _ => rfl
  have hg1 := ((hg.alloc (.cells #[.int .i64 0] 3)).alloc (.cells #[.string ⟨#[]⟩] 9)).alloc (.cells #[.pointer none] 168)
  go_enter_defers Tryz.func67, Tryz.ntmps67
  go_wp2_with fail
  refine (as_missSt _ _ _ hg1).mono ?_
  rintro e w1 ⟨rfl, hb⟩
  have hg2 := (hg1.below hb).alloc (.cells #[.pointer none] 149)
  have hz : w.heap.size + 2 < w1.heap.size := by have := hb.size; simp at this; omega
  obtain ⟨hc, hf⟩ := bcell hb
  have c0 : w1.cell? ⟨w.heap.size, 0, none⟩ = some (.int .i64 0) := by rw [hc _ _ (by simp; omega)]; simp [go_sem]
  have c1 : w1.cell? ⟨w.heap.size + 1, 0, none⟩ = some (.string ⟨#[]⟩) := by rw [hc _ _ (by simp)]; simp [go_sem]
  have f0 : w1.frozen? ⟨w.heap.size, 0, none⟩ = false := by rw [hf _ _ (by simp; omega)]; simp [go_sem]
  have f1 : w1.frozen? ⟨w.heap.size + 1, 0, none⟩ = false := by rw [hf _ _ (by simp)]; simp [go_sem]
  clear hc hf
  go_wp2_with fail
  refine (as_missSy _ _ _ hg2).mono ?_
  rintro e w2 ⟨rfl, hb2⟩
  obtain ⟨hc, hf⟩ := bcell hb2
  have d0 : w2.cell? ⟨w.heap.size, 0, none⟩ = some (.int .i64 0) := by rw [hc _ _ (by simp; omega), World.cell?_alloc_lt _ _ ⟨w.heap.size, 0, none⟩ (by simp; omega)]; exact c0
  have d1 : w2.cell? ⟨w.heap.size + 1, 0, none⟩ = some (.string ⟨#[]⟩) := by rw [hc _ _ (by simp; omega), World.cell?_alloc_lt _ _ ⟨w.heap.size + 1, 0, none⟩ (by simp; omega)]; exact c1
  have e0 : w2.frozen? ⟨w.heap.size, 0, none⟩ = false := by rw [hf _ _ (by simp; omega), World.frozen?_alloc_old _ _ ⟨w.heap.size, 0, none⟩ (by simp; omega)]; exact f0
  have e1 : w2.frozen? ⟨w.heap.size + 1, 0, none⟩ = false := by rw [hf _ _ (by simp; omega), World.frozen?_alloc_old _ _ ⟨w.heap.size + 1, 0, none⟩ (by simp; omega)]; exact f1
  have hz2 : w.heap.size + 2 < w2.heap.size := by have := hb2.size; simp at this; omega
  clear hc hf c0 c1 f0 f1
  go_wp2
  refine leaves_cons (f := 83) (args := #[.pointer (some ⟨w.heap.size, 0, none⟩), .pointer (some ⟨w.heap.size + 1, 0, none⟩)]) (by simp) (by simp [go_sem]) ?_
  refine (rec_place ⟨w.heap.size, 0, none⟩ ⟨w.heap.size + 1, 0, none⟩ _).mono ?_
  rintro e u' w'' ⟨rfl, rfl, rfl⟩
  simp [Leaves, settle, results, Tryz.results67, go_sem]
  have q0 : (w2.setCell ⟨w.heap.size, 0, none⟩ (.int .i64 0)).cell? ⟨w.heap.size, 0, none⟩ = some (.int .i64 0) := World.cell?_setCell_same _ _ _ d0
  have q1 : ((w2.setCell ⟨w.heap.size, 0, none⟩ (.int .i64 0)).setCell ⟨w.heap.size + 1, 0, none⟩ (.string ⟨#[]⟩)).cell? ⟨w.heap.size + 1, 0, none⟩ = some (.string ⟨#[]⟩) :=
    World.cell?_setCell_same _ _ _ (by rw [World.cell?_setCell_other _ _ _ _ (by simp)]; exact d1)
  rw [q0]
  simp only [Result.andThen, q1]
  exact ⟨_, rfl, rfl, (((((((Below.refl _ _).alloc (Nat.le_refl _) _).alloc (by simp) _).alloc (by simp; omega) _).trans (hb.mono (by simp; omega))).alloc (by omega) _).trans (hb2.mono (by simp; omega))).setCell (by simp) _ |>.setCell (by simp) _⟩

theorem three {w : World} {b : Nat} {x0 x1 x2 y0 y1 y2 : Value} (c0 : w.cell? ⟨b, 0, none⟩ = some x0) (c1 : w.cell? ⟨b, 1, none⟩ = some x1) (c2 : w.cell? ⟨b, 2, none⟩ = some x2) :
    (((w.setCell ⟨b, 0, none⟩ y0).setCell ⟨b, 1, none⟩ y1).setCell ⟨b, 2, none⟩ y2).cell? ⟨b, 0, none⟩ = some y0 ∧
    (((w.setCell ⟨b, 0, none⟩ y0).setCell ⟨b, 1, none⟩ y1).setCell ⟨b, 2, none⟩ y2).cell? ⟨b, 1, none⟩ = some y1 ∧
    (((w.setCell ⟨b, 0, none⟩ y0).setCell ⟨b, 1, none⟩ y1).setCell ⟨b, 2, none⟩ y2).cell? ⟨b, 2, none⟩ = some y2 := by
  refine ⟨?_, ?_, ?_⟩
  · rw [World.cell?_setCell_other _ _ _ _ (by simp), World.cell?_setCell_other _ _ _ _ (by simp)]; exact World.cell?_setCell_same _ _ _ c0
  · rw [World.cell?_setCell_other _ _ _ _ (by simp)]; exact World.cell?_setCell_same _ _ _ (by rw [World.cell?_setCell_other _ _ _ _ (by simp)]; exact c1)
  · exact World.cell?_setCell_same _ _ _ (by rw [World.cell?_setCell_other _ _ _ _ (by simp), World.cell?_setCell_other _ _ _ _ (by simp)]; exact c2)

theorem tell_of (k : Nat) (n : Int) {a : Nat → Addr} {w : World} (h : Sents a w)
    (hn : ∀ w1, Sents a w1 → Calls Tryz.prog 68 #[.iface 241 (.pointer (some (a k)))] w1 fun e w' => e = .returned (.int .i64 n) ∧ Below w1.heap.size w1 w') :
    Calls Tryz.prog 43 #[.iface 241 (.pointer (some (a k)))] w fun e w' => e = .returned (.agg #[.int .i64 n, .int .i64 0, .string ⟨#[]⟩]) ∧ Below w.heap.size w w' := by
  have h1 := h.alloc (.cells #[.int .i64 0, .int .i64 0, .string ⟨#[]⟩] 60)
  go_enter Tryz.func43, Tryz.ntmps43
  go_wp2_with fail
  refine (ends_sent _ _ h1.et).mono ?_
  rintro e w1 ⟨rfl, hb1⟩
  have h2 := h1.below hb1
  go_wp2_with fail
  refine (place_sent _ _ h2.et).mono ?_
  rintro e w2 ⟨rfl, hb2⟩
  have h3 := h2.below hb2
  go_wp2_with fail
  refine (hn _ h3).mono ?_
  rintro e w3 ⟨rfl, hb3⟩
  have hb := (hb1.trans (hb2.mono hb1.size)).trans (hb3.mono (Nat.le_trans hb1.size hb2.size))
  obtain ⟨hc, hf⟩ := bcell hb
  have c0 : w3.cell? ⟨w.heap.size, 0, none⟩ = some (.int .i64 0) := by rw [hc _ _ (by simp)]; simp [go_sem]
  have c1 : w3.cell? ⟨w.heap.size, 1, none⟩ = some (.int .i64 0) := by rw [hc _ _ (by simp)]; simp [go_sem]
  have c2 : w3.cell? ⟨w.heap.size, 2, none⟩ = some (.string ⟨#[]⟩) := by rw [hc _ _ (by simp)]; simp [go_sem]
  have f0 : w3.frozen? ⟨w.heap.size, 0, none⟩ = false := by rw [hf _ _ (by simp)]; simp [go_sem]
  have f1 : w3.frozen? ⟨w.heap.size, 1, none⟩ = false := by rw [hf _ _ (by simp)]; simp [go_sem]
  have f2 : w3.frozen? ⟨w.heap.size, 2, none⟩ = false := by rw [hf _ _ (by simp)]; simp [go_sem]
  have hz : w.heap.size < w3.heap.size := by have := hb.size; simp at this; omega
  clear hc hf
  go_wp2
  obtain ⟨q0, q1, q2⟩ := three (y0 := .int .i64 n) (y1 := .int .i64 0) (y2 := .string ⟨#[]⟩) c0 c1 c2
  refine bodyPost_ret (v := .agg #[.int .i64 n, .int .i64 0, .string ⟨#[]⟩]) (by simp [results, Tryz.results43, go_sem, q0, q1, q2]) rfl ⟨rfl, ?_⟩
  exact (((((Below.refl _ _).alloc (Nat.le_refl _) _).trans (hb.mono (by simp))).setCell (by simp) _).setCell (by simp) _).setCell (by simp) _

/-- flow.Tell at the i-th of the seven errors. -/
theorem tell_sents {a : Nat → Addr} {w : World} (h : Sents a w) (i : Nat) (hi : i < 7) :
    Calls Tryz.prog 43 #[.iface 241 (.pointer (some (a i)))] w fun e w' => e = .returned (.agg #[.int .i64 ((i : Int) + 1), .int .i64 0, .string ⟨#[]⟩]) ∧ Below w.heap.size w w' := by
  have hcase : i = 0 ∨ i = 1 ∨ i = 2 ∨ i = 3 ∨ i = 4 ∨ i = 5 ∨ i = 6 := by omega
  rcases hcase with rfl | rfl | rfl | rfl | rfl | rfl | rfl
  · exact tell_of 0 _ h fun w1 h1 => number_0 h1
  · exact tell_of 1 _ h fun w1 h1 => number_1 h1
  · exact tell_of 2 _ h fun w1 h1 => number_2 h1
  · exact tell_of 3 _ h fun w1 h1 => number_3 h1
  · exact tell_of 4 _ h fun w1 h1 => number_4 h1
  · exact tell_of 5 _ h fun w1 h1 => number_5 h1
  · exact tell_of 6 _ h fun w1 h1 => number_6 h1
end Go.Proofs.YtdfkjgogdbeokaaGreatDoor
