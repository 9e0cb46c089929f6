/-
  DERIVED. small facts: the cell of errors.errorType; the functions that Tell's helpers defer.
-/
import Derived.Test.YtfjdogpjckipbaaDoorErr
import Derived.Defers
import Derived.Recover
import Derived.Laws.Pointers
namespace Go.Proofs.YtfjdogpjckipbaaDoor
open Go.RowKit Go.Extern.Stop Go.Stop Go.Extern

theorem bcell {W w1 : World} (hb : Below W.heap.size W w1) : (∀ b o, b < W.heap.size → w1.cell? ⟨b, o, none⟩ = W.cell? ⟨b, o, none⟩) ∧ (∀ b o, b < W.heap.size → w1.frozen? ⟨b, o, none⟩ = W.frozen? ⟨b, o, none⟩) :=
  ⟨fun b o h => hb.cell (p := ⟨b, o, none⟩) h, fun b o h => hb.frozen (p := ⟨b, o, none⟩) h⟩

/-- The function that wrappedBy defers, where nothing panics. -/
theorem rec_wrap (p : Addr) (w : World) :
    CallsD Tryd.prog 34 #[.pointer (some p)] .returning w fun e u' w' => e = .returned (.tuple #[]) ∧ u' = .returning ∧ w' = w := by
  refine callsD_of_wpS Tryd.func34 rfl fun c₀ cs hu => ?_
  apply wpS_seq
  apply wpS_region
  simp [wpOpsS, go_sem, recoverD, hu, Tryd.ntmps34, Exit.thenS]
  refine wpS_cond (t := false) (by simp [Act.eval, Array.replicate]) ?_
  simp only [Bool.false_eq_true, if_false]
  refine wpS_of_wp (wp_skip ?_)
  cases c₀
  simp_all [bodyPostS, results, Tryd.results34]

/-- The cell of errors.errorType, as the program lays it. -/
def EtCell (w : World) : Prop := w.cell? ⟨8, 0, none⟩ = some (.iface 159 (.agg #[.pointer (some ⟨9, 30, none⟩)]))
theorem EtCell.lt {w : World} (h : EtCell w) : 8 < w.heap.size := by
  unfold EtCell at h
  rcases Nat.lt_or_ge 8 w.heap.size with h1 | h1
  · exact h1
  · simp [World.cell?, Array.getElem?_eq_none h1] at h
theorem EtCell.alloc {w : World} (h : EtCell w) (o : Obj) : EtCell (w.alloc o) := by
  have hl := h.lt
  unfold EtCell at *
  rw [World.cell?_alloc_lt _ _ ⟨8, 0, none⟩ hl]; exact h
theorem EtCell.below {w w' : World} (h : EtCell w) (hb : Below w.heap.size w w') : EtCell w' := by
  have hl := h.lt
  unfold EtCell at *
  rw [hb.cell (p := ⟨8, 0, none⟩) hl]; exact h


theorem rec_number (p : Addr) (w : World) :
    CallsD Tryd.prog 82 #[.pointer (some p)] .returning w fun e u' w' => e = .returned (.tuple #[]) ∧ u' = .returning ∧ w' = w := by
  refine callsD_of_wpS Tryd.func82 rfl fun c₀ cs hu => ?_
  apply wpS_seq
  apply wpS_region
  simp [wpOpsS, go_sem, recoverD, hu, Tryd.ntmps82, Exit.thenS]
  refine wpS_cond (t := false) (by simp [Act.eval, Array.replicate]) ?_
  simp only [Bool.false_eq_true, if_false]
  refine wpS_of_wp (wp_skip ?_)
  cases c₀
  simp_all [bodyPostS, results, Tryd.results82]

theorem rec_join (p : Addr) (w : World) :
    CallsD Tryd.prog 45 #[.pointer (some p)] .returning w fun e u' w' => e = .returned (.tuple #[]) ∧ u' = .returning ∧ w' = w := by
  refine callsD_of_wpS Tryd.func45 rfl fun c₀ cs hu => ?_
  apply wpS_seq
  apply wpS_region
  simp [wpOpsS, go_sem, recoverD, hu, Tryd.ntmps45, Exit.thenS]
  refine wpS_cond (t := false) (by simp [Act.eval, Array.replicate]) ?_
  simp only [Bool.false_eq_true, if_false]
  refine wpS_of_wp (wp_skip ?_)
  cases c₀
  simp_all [bodyPostS, results, Tryd.results45]

end Go.Proofs.YtfjdogpjckipbaaDoor
