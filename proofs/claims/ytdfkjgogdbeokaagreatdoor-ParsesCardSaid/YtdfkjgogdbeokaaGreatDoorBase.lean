/-
  DERIVED. small facts: the cell of errors.errorType; the functions that Tell's helpers defer.
-/
import Derived.Test.YtdfkjgogdbeokaaGreatDoorErr
import Derived.Defers
import Derived.Recover
import Derived.Laws.Pointers
namespace Go.Proofs.YtdfkjgogdbeokaaGreatDoor
open Go.RowKit Go.Extern.Stop Go.Stop Go.Extern

theorem bcell {W w1 : World} (hb : Below W.heap.size W w1) : (∀ b o, b < W.heap.size → w1.cell? ⟨b, o, none⟩ = W.cell? ⟨b, o, none⟩) ∧ (∀ b o, b < W.heap.size → w1.frozen? ⟨b, o, none⟩ = W.frozen? ⟨b, o, none⟩) :=
  ⟨fun b o h => hb.cell (p := ⟨b, o, none⟩) h, fun b o h => hb.frozen (p := ⟨b, o, none⟩) h⟩

/-- The function that wrappedBy defers, where nothing panics. -/
theorem rec_wrap (p : Addr) (w : World) :
    CallsD Tryz.prog 103 #[.pointer (some p)] .returning w fun e u' w' => e = .returned (.tuple #[]) ∧ u' = .returning ∧ w' = w := by
  refine callsD_of_wpS Tryz.func103 rfl fun c₀ cs hu => ?_
  apply wpS_seq
  apply wpS_region
  simp [wpOpsS, go_sem, recoverD, hu, Tryz.ntmps103, Exit.thenS]
  refine wpS_cond (t := false) (by simp [Act.eval, Array.replicate]) ?_
  simp only [Bool.false_eq_true, if_false]
  refine wpS_of_wp (wp_skip ?_)
  cases c₀
  simp_all [bodyPostS, results, Tryz.results103]

/-- The cell of errors.errorType, as the program lays it. -/
def EtCell (w : World) : Prop := w.cell? ⟨7, 0, none⟩ = some (.iface 224 (.agg #[.pointer (some ⟨9, 99, none⟩)]))
theorem EtCell.lt {w : World} (h : EtCell w) : 7 < w.heap.size := by
  unfold EtCell at h
  rcases Nat.lt_or_ge 7 w.heap.size with h1 | h1
  · exact h1
  · simp [World.cell?, Array.getElem?_eq_none h1] at h
theorem EtCell.alloc {w : World} (h : EtCell w) (o : Obj) : EtCell (w.alloc o) := by
  have hl := h.lt
  unfold EtCell at *
  rw [World.cell?_alloc_lt _ _ ⟨7, 0, none⟩ hl]; exact h
theorem EtCell.below {w w' : World} (h : EtCell w) (hb : Below w.heap.size w w') : EtCell w' := by
  have hl := h.lt
  unfold EtCell at *
  rw [hb.cell (p := ⟨7, 0, none⟩) hl]; exact h


theorem rec_number (p : Addr) (w : World) :
    CallsD Tryz.prog 85 #[.pointer (some p)] .returning w fun e u' w' => e = .returned (.tuple #[]) ∧ u' = .returning ∧ w' = w := by
  refine callsD_of_wpS Tryz.func85 rfl fun c₀ cs hu => ?_
  apply wpS_seq
  apply wpS_region
  simp [wpOpsS, go_sem, recoverD, hu, Tryz.ntmps85, Exit.thenS]
  refine wpS_cond (t := false) (by simp [Act.eval, Array.replicate]) ?_
  simp only [Bool.false_eq_true, if_false]
  refine wpS_of_wp (wp_skip ?_)
  cases c₀
  simp_all [bodyPostS, results, Tryz.results85]

theorem rec_place (p q : Addr) (w : World) :
    CallsD Tryz.prog 83 #[.pointer (some p), .pointer (some q)] .returning w fun e u' w' => e = .returned (.tuple #[]) ∧ u' = .returning ∧ w' = w := by
  refine callsD_of_wpS Tryz.func83 rfl fun c₀ cs hu => ?_
  apply wpS_seq
  apply wpS_region
  simp [wpOpsS, go_sem, recoverD, hu, Tryz.ntmps83, Exit.thenS]
  refine wpS_cond (t := false) (by simp [Act.eval, Array.replicate]) ?_
  simp only [Bool.false_eq_true, if_false]
  refine wpS_of_wp (wp_skip ?_)
  cases c₀
  simp_all [bodyPostS, results, Tryz.results83]
end Go.Proofs.YtdfkjgogdbeokaaGreatDoor
