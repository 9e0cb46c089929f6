/-
  DERIVED. The seven errors in memory; flow.numberOf at each.
-/
import Derived.Test.YtfjdogpjckipbaaDoorBaseB
namespace Go.Proofs.YtfjdogpjckipbaaDoor
open Go.RowKit Go.Extern.Stop Go.Stop Go.Extern

/-- Which package-level variable holds the i-th of the seven errors. -/
def gOf : Nat → Nat
  | 0 => 0
  | 1 => 1
  | 2 => 2
  | 3 => 3
  | 4 => 4
  | 5 => 5
  | _ => 6

/-- The seven errors: each variable holds a pointer to an errors.errorString of its own. -/
structure Sents (a : Nat → Addr) (w : World) : Prop where
  et : EtCell w
  cell : ∀ i, i < 7 → w.cell? ⟨gOf i, 0, none⟩ = some (.iface 167 (.pointer (some (a i))))
  row : ∀ i, i < 7 → ∃ c t, w.heap[(a i).block]? = some (.cells c t (0, 0))
  ne : ∀ i j, i < 7 → j < 7 → i ≠ j → a i ≠ a j

theorem lt_of_cell {w : World} {p : Addr} {v : Value} (h : w.cell? p = some v) : p.block < w.heap.size := by
  rcases Nat.lt_or_ge p.block w.heap.size with h1 | h1
  · exact h1
  · simp [World.cell?, Array.getElem?_eq_none h1] at h

theorem Sents.below {a : Nat → Addr} {w w' : World} (h : Sents a w) (hb : Below w.heap.size w w') : Sents a w' := by
  refine ⟨h.et.below hb, fun i hi => ?_, fun i hi => ?_, h.ne⟩
  · rw [hb.cell (p := ⟨gOf i, 0, none⟩) (lt_of_cell (h.cell i hi))]; exact h.cell i hi
  · obtain ⟨c, t, hr⟩ := h.row i hi
    refine ⟨c, t, ?_⟩
    rw [hb.block _ ?_]
    · exact hr
    · rcases Nat.lt_or_ge (a i).block w.heap.size with h1 | h1
      · exact h1
      · rw [Array.getElem?_eq_none h1] at hr; cases hr
theorem Sents.alloc {a : Nat → Addr} {w : World} (h : Sents a w) (o : Obj) : Sents a (w.alloc o) := h.below ((Below.refl _ _).alloc (Nat.le_refl _) _)

/-- errors.Is of the i-th and the j-th. -/
theorem is_sents {a : Nat → Addr} {w : World} (h : Sents a w) (i j : Nat) (hi : i < 7) (hj : j < 7) (hne : i ≠ j) :
    Calls Tryd.prog 83 #[.iface 167 (.pointer (some (a i))), .iface 167 (.pointer (some (a j)))] w fun e w' => e = .returned (.bool false) ∧ w' = w := by
  obtain ⟨ca, ta, ha⟩ := h.row i hi
  obtain ⟨cb, tb, hb⟩ := h.row j hj
  exact is_other _ _ ca cb ta tb w (h.ne i j hi hj hne) ha hb

set_option maxHeartbeats 1000000 in
theorem number_0 {a : Nat → Addr} {w : World} (h : Sents a w) :
    Calls Tryd.prog 81 #[.iface 167 (.pointer (some (a 0)))] w fun e w' => e = .returned (.int .i64 1) ∧ Below w.heap.size w w' := by
  have hmf : ∀ (fn : Fn) (first cap : Array Value) (w : World), (Instr.makeFunc fn first cap).run Tryd.prog w = .ok (.func fn first cap) w := fun _ _ _ _ => rfl
  have h1 := h.alloc (.cells #[.int .i64 0] 3)
  have c0 : (w.alloc (.cells #[.int .i64 0] 3)).cell? ⟨0, 0, none⟩ = some (.iface 167 (.pointer (some (a 0)))) := h1.cell 0 (by omega)
  go_enter_defers Tryd.func81, Tryd.ntmps81
  go_wp2_with fail
  refine (is_same _ _).mono ?_
  rintro e w' ⟨rfl, rfl⟩
  go_wp2
  refine leaves_cons (f := 82) (args := #[.pointer (some ⟨w.heap.size, 0, none⟩)]) (by simp) (by simp [go_sem]) ?_
  refine (rec_number ⟨w.heap.size, 0, none⟩ _).mono ?_
  rintro e u' w'' ⟨rfl, rfl, rfl⟩
  simp [Leaves, settle, results, Tryd.results81, go_sem]
  exact (Below.refl _ _).alloc (Nat.le_refl _) _

set_option maxHeartbeats 1000000 in
theorem number_1 {a : Nat → Addr} {w : World} (h : Sents a w) :
    Calls Tryd.prog 81 #[.iface 167 (.pointer (some (a 1)))] w fun e w' => e = .returned (.int .i64 2) ∧ Below w.heap.size w w' := by
  have hmf : ∀ (fn : Fn) (first cap : Array Value) (w : World), (Instr.makeFunc fn first cap).run Tryd.prog w = .ok (.func fn first cap) w := fun _ _ _ _ => rfl
  have h1 := h.alloc (.cells #[.int .i64 0] 3)
  have c0 : (w.alloc (.cells #[.int .i64 0] 3)).cell? ⟨0, 0, none⟩ = some (.iface 167 (.pointer (some (a 0)))) := h1.cell 0 (by omega)
  have c1 : (w.alloc (.cells #[.int .i64 0] 3)).cell? ⟨1, 0, none⟩ = some (.iface 167 (.pointer (some (a 1)))) := h1.cell 1 (by omega)
  go_enter_defers Tryd.func81, Tryd.ntmps81
  go_wp2_with fail
  refine (is_sents h1 1 0 (by omega) (by omega) (by omega)).mono ?_
  rintro e w' ⟨rfl, rfl⟩
  go_wp2_with fail
  refine (is_same _ _).mono ?_
  rintro e w' ⟨rfl, rfl⟩
  go_wp2
  refine leaves_cons (f := 82) (args := #[.pointer (some ⟨w.heap.size, 0, none⟩)]) (by simp) (by simp [go_sem]) ?_
  refine (rec_number ⟨w.heap.size, 0, none⟩ _).mono ?_
  rintro e u' w'' ⟨rfl, rfl, rfl⟩
  simp [Leaves, settle, results, Tryd.results81, go_sem]
  exact (Below.refl _ _).alloc (Nat.le_refl _) _

set_option maxHeartbeats 1000000 in
theorem number_2 {a : Nat → Addr} {w : World} (h : Sents a w) :
    Calls Tryd.prog 81 #[.iface 167 (.pointer (some (a 2)))] w fun e w' => e = .returned (.int .i64 3) ∧ Below w.heap.size w w' := by
  have hmf : ∀ (fn : Fn) (first cap : Array Value) (w : World), (Instr.makeFunc fn first cap).run Tryd.prog w = .ok (.func fn first cap) w := fun _ _ _ _ => rfl
  have h1 := h.alloc (.cells #[.int .i64 0] 3)
  have c0 : (w.alloc (.cells #[.int .i64 0] 3)).cell? ⟨0, 0, none⟩ = some (.iface 167 (.pointer (some (a 0)))) := h1.cell 0 (by omega)
  have c1 : (w.alloc (.cells #[.int .i64 0] 3)).cell? ⟨1, 0, none⟩ = some (.iface 167 (.pointer (some (a 1)))) := h1.cell 1 (by omega)
  have c2 : (w.alloc (.cells #[.int .i64 0] 3)).cell? ⟨2, 0, none⟩ = some (.iface 167 (.pointer (some (a 2)))) := h1.cell 2 (by omega)
  go_enter_defers Tryd.func81, Tryd.ntmps81
  go_wp2_with fail
  refine (is_sents h1 2 0 (by omega) (by omega) (by omega)).mono ?_
  rintro e w' ⟨rfl, rfl⟩
  go_wp2_with fail
  refine (is_sents h1 2 1 (by omega) (by omega) (by omega)).mono ?_
  rintro e w' ⟨rfl, rfl⟩
  go_wp2_with fail
  refine (is_same _ _).mono ?_
  rintro e w' ⟨rfl, rfl⟩
  go_wp2
  refine leaves_cons (f := 82) (args := #[.pointer (some ⟨w.heap.size, 0, none⟩)]) (by simp) (by simp [go_sem]) ?_
  refine (rec_number ⟨w.heap.size, 0, none⟩ _).mono ?_
  rintro e u' w'' ⟨rfl, rfl, rfl⟩
  simp [Leaves, settle, results, Tryd.results81, go_sem]
  exact (Below.refl _ _).alloc (Nat.le_refl _) _

set_option maxHeartbeats 1000000 in
theorem number_3 {a : Nat → Addr} {w : World} (h : Sents a w) :
    Calls Tryd.prog 81 #[.iface 167 (.pointer (some (a 3)))] w fun e w' => e = .returned (.int .i64 4) ∧ Below w.heap.size w w' := by
  have hmf : ∀ (fn : Fn) (first cap : Array Value) (w : World), (Instr.makeFunc fn first cap).run Tryd.prog w = .ok (.func fn first cap) w := fun _ _ _ _ => rfl
  have h1 := h.alloc (.cells #[.int .i64 0] 3)
  have c0 : (w.alloc (.cells #[.int .i64 0] 3)).cell? ⟨0, 0, none⟩ = some (.iface 167 (.pointer (some (a 0)))) := h1.cell 0 (by omega)
  have c1 : (w.alloc (.cells #[.int .i64 0] 3)).cell? ⟨1, 0, none⟩ = some (.iface 167 (.pointer (some (a 1)))) := h1.cell 1 (by omega)
  have c2 : (w.alloc (.cells #[.int .i64 0] 3)).cell? ⟨2, 0, none⟩ = some (.iface 167 (.pointer (some (a 2)))) := h1.cell 2 (by omega)
  have c3 : (w.alloc (.cells #[.int .i64 0] 3)).cell? ⟨3, 0, none⟩ = some (.iface 167 (.pointer (some (a 3)))) := h1.cell 3 (by omega)
  go_enter_defers Tryd.func81, Tryd.ntmps81
  go_wp2_with fail
  refine (is_sents h1 3 0 (by omega) (by omega) (by omega)).mono ?_
  rintro e w' ⟨rfl, rfl⟩
  go_wp2_with fail
  refine (is_sents h1 3 1 (by omega) (by omega) (by omega)).mono ?_
  rintro e w' ⟨rfl, rfl⟩
  go_wp2_with fail
  refine (is_sents h1 3 2 (by omega) (by omega) (by omega)).mono ?_
  rintro e w' ⟨rfl, rfl⟩
  go_wp2_with fail
  refine (is_same _ _).mono ?_
  rintro e w' ⟨rfl, rfl⟩
  go_wp2
  refine leaves_cons (f := 82) (args := #[.pointer (some ⟨w.heap.size, 0, none⟩)]) (by simp) (by simp [go_sem]) ?_
  refine (rec_number ⟨w.heap.size, 0, none⟩ _).mono ?_
  rintro e u' w'' ⟨rfl, rfl, rfl⟩
  simp [Leaves, settle, results, Tryd.results81, go_sem]
  exact (Below.refl _ _).alloc (Nat.le_refl _) _

set_option maxHeartbeats 1000000 in
theorem number_4 {a : Nat → Addr} {w : World} (h : Sents a w) :
    Calls Tryd.prog 81 #[.iface 167 (.pointer (some (a 4)))] w fun e w' => e = .returned (.int .i64 5) ∧ Below w.heap.size w w' := by
  have hmf : ∀ (fn : Fn) (first cap : Array Value) (w : World), (Instr.makeFunc fn first cap).run Tryd.prog w = .ok (.func fn first cap) w := fun _ _ _ _ => rfl
  have h1 := h.alloc (.cells #[.int .i64 0] 3)
  have c0 : (w.alloc (.cells #[.int .i64 0] 3)).cell? ⟨0, 0, none⟩ = some (.iface 167 (.pointer (some (a 0)))) := h1.cell 0 (by omega)
  have c1 : (w.alloc (.cells #[.int .i64 0] 3)).cell? ⟨1, 0, none⟩ = some (.iface 167 (.pointer (some (a 1)))) := h1.cell 1 (by omega)
  have c2 : (w.alloc (.cells #[.int .i64 0] 3)).cell? ⟨2, 0, none⟩ = some (.iface 167 (.pointer (some (a 2)))) := h1.cell 2 (by omega)
  have c3 : (w.alloc (.cells #[.int .i64 0] 3)).cell? ⟨3, 0, none⟩ = some (.iface 167 (.pointer (some (a 3)))) := h1.cell 3 (by omega)
  have c4 : (w.alloc (.cells #[.int .i64 0] 3)).cell? ⟨4, 0, none⟩ = some (.iface 167 (.pointer (some (a 4)))) := h1.cell 4 (by omega)
  go_enter_defers Tryd.func81, Tryd.ntmps81
  go_wp2_with fail
  refine (is_sents h1 4 0 (by omega) (by omega) (by omega)).mono ?_
  rintro e w' ⟨rfl, rfl⟩
  go_wp2_with fail
  refine (is_sents h1 4 1 (by omega) (by omega) (by omega)).mono ?_
  rintro e w' ⟨rfl, rfl⟩
  go_wp2_with fail
  refine (is_sents h1 4 2 (by omega) (by omega) (by omega)).mono ?_
  rintro e w' ⟨rfl, rfl⟩
  go_wp2_with fail
  refine (is_sents h1 4 3 (by omega) (by omega) (by omega)).mono ?_
  rintro e w' ⟨rfl, rfl⟩
  go_wp2_with fail
  refine (is_same _ _).mono ?_
  rintro e w' ⟨rfl, rfl⟩
  go_wp2
  refine leaves_cons (f := 82) (args := #[.pointer (some ⟨w.heap.size, 0, none⟩)]) (by simp) (by simp [go_sem]) ?_
  refine (rec_number ⟨w.heap.size, 0, none⟩ _).mono ?_
  rintro e u' w'' ⟨rfl, rfl, rfl⟩
  simp [Leaves, settle, results, Tryd.results81, go_sem]
  exact (Below.refl _ _).alloc (Nat.le_refl _) _

set_option maxHeartbeats 1000000 in
theorem number_5 {a : Nat → Addr} {w : World} (h : Sents a w) :
    Calls Tryd.prog 81 #[.iface 167 (.pointer (some (a 5)))] w fun e w' => e = .returned (.int .i64 6) ∧ Below w.heap.size w w' := by
  have hmf : ∀ (fn : Fn) (first cap : Array Value) (w : World), (Instr.makeFunc fn first cap).run Tryd.prog w = .ok (.func fn first cap) w := fun _ _ _ _ => rfl
  have h1 := h.alloc (.cells #[.int .i64 0] 3)
  have c0 : (w.alloc (.cells #[.int .i64 0] 3)).cell? ⟨0, 0, none⟩ = some (.iface 167 (.pointer (some (a 0)))) := h1.cell 0 (by omega)
  have c1 : (w.alloc (.cells #[.int .i64 0] 3)).cell? ⟨1, 0, none⟩ = some (.iface 167 (.pointer (some (a 1)))) := h1.cell 1 (by omega)
  have c2 : (w.alloc (.cells #[.int .i64 0] 3)).cell? ⟨2, 0, none⟩ = some (.iface 167 (.pointer (some (a 2)))) := h1.cell 2 (by omega)
  have c3 : (w.alloc (.cells #[.int .i64 0] 3)).cell? ⟨3, 0, none⟩ = some (.iface 167 (.pointer (some (a 3)))) := h1.cell 3 (by omega)
  have c4 : (w.alloc (.cells #[.int .i64 0] 3)).cell? ⟨4, 0, none⟩ = some (.iface 167 (.pointer (some (a 4)))) := h1.cell 4 (by omega)
  have c5 : (w.alloc (.cells #[.int .i64 0] 3)).cell? ⟨5, 0, none⟩ = some (.iface 167 (.pointer (some (a 5)))) := h1.cell 5 (by omega)
  go_enter_defers Tryd.func81, Tryd.ntmps81
  go_wp2_with fail
  refine (is_sents h1 5 0 (by omega) (by omega) (by omega)).mono ?_
  rintro e w' ⟨rfl, rfl⟩
  go_wp2_with fail
  refine (is_sents h1 5 1 (by omega) (by omega) (by omega)).mono ?_
  rintro e w' ⟨rfl, rfl⟩
  go_wp2_with fail
  refine (is_sents h1 5 2 (by omega) (by omega) (by omega)).mono ?_
  rintro e w' ⟨rfl, rfl⟩
  go_wp2_with fail
  refine (is_sents h1 5 3 (by omega) (by omega) (by omega)).mono ?_
  rintro e w' ⟨rfl, rfl⟩
  go_wp2_with fail
  refine (is_sents h1 5 4 (by omega) (by omega) (by omega)).mono ?_
  rintro e w' ⟨rfl, rfl⟩
  go_wp2_with fail
  refine (is_same _ _).mono ?_
  rintro e w' ⟨rfl, rfl⟩
  go_wp2
  refine leaves_cons (f := 82) (args := #[.pointer (some ⟨w.heap.size, 0, none⟩)]) (by simp) (by simp [go_sem]) ?_
  refine (rec_number ⟨w.heap.size, 0, none⟩ _).mono ?_
  rintro e u' w'' ⟨rfl, rfl, rfl⟩
  simp [Leaves, settle, results, Tryd.results81, go_sem]
  exact (Below.refl _ _).alloc (Nat.le_refl _) _

set_option maxHeartbeats 1000000 in
theorem number_6 {a : Nat → Addr} {w : World} (h : Sents a w) :
    Calls Tryd.prog 81 #[.iface 167 (.pointer (some (a 6)))] w fun e w' => e = .returned (.int .i64 7) ∧ Below w.heap.size w w' := by
  have hmf : ∀ (fn : Fn) (first cap : Array Value) (w : World), (Instr.makeFunc fn first cap).run Tryd.prog w = .ok (.func fn first cap) w := fun _ _ _ _ => rfl
  have h1 := h.alloc (.cells #[.int .i64 0] 3)
  have c0 : (w.alloc (.cells #[.int .i64 0] 3)).cell? ⟨0, 0, none⟩ = some (.iface 167 (.pointer (some (a 0)))) := h1.cell 0 (by omega)
  have c1 : (w.alloc (.cells #[.int .i64 0] 3)).cell? ⟨1, 0, none⟩ = some (.iface 167 (.pointer (some (a 1)))) := h1.cell 1 (by omega)
  have c2 : (w.alloc (.cells #[.int .i64 0] 3)).cell? ⟨2, 0, none⟩ = some (.iface 167 (.pointer (some (a 2)))) := h1.cell 2 (by omega)
  have c3 : (w.alloc (.cells #[.int .i64 0] 3)).cell? ⟨3, 0, none⟩ = some (.iface 167 (.pointer (some (a 3)))) := h1.cell 3 (by omega)
  have c4 : (w.alloc (.cells #[.int .i64 0] 3)).cell? ⟨4, 0, none⟩ = some (.iface 167 (.pointer (some (a 4)))) := h1.cell 4 (by omega)
  have c5 : (w.alloc (.cells #[.int .i64 0] 3)).cell? ⟨5, 0, none⟩ = some (.iface 167 (.pointer (some (a 5)))) := h1.cell 5 (by omega)
  have c6 : (w.alloc (.cells #[.int .i64 0] 3)).cell? ⟨6, 0, none⟩ = some (.iface 167 (.pointer (some (a 6)))) := h1.cell 6 (by omega)
  go_enter_defers Tryd.func81, Tryd.ntmps81
  go_wp2_with fail
  refine (is_sents h1 6 0 (by omega) (by omega) (by omega)).mono ?_
  rintro e w' ⟨rfl, rfl⟩
  go_wp2_with fail
  refine (is_sents h1 6 1 (by omega) (by omega) (by omega)).mono ?_
  rintro e w' ⟨rfl, rfl⟩
  go_wp2_with fail
  refine (is_sents h1 6 2 (by omega) (by omega) (by omega)).mono ?_
  rintro e w' ⟨rfl, rfl⟩
  go_wp2_with fail
  refine (is_sents h1 6 3 (by omega) (by omega) (by omega)).mono ?_
  rintro e w' ⟨rfl, rfl⟩
  go_wp2_with fail
  refine (is_sents h1 6 4 (by omega) (by omega) (by omega)).mono ?_
  rintro e w' ⟨rfl, rfl⟩
  go_wp2_with fail
  refine (is_sents h1 6 5 (by omega) (by omega) (by omega)).mono ?_
  rintro e w' ⟨rfl, rfl⟩
  go_wp2_with fail
  refine (is_same _ _).mono ?_
  rintro e w' ⟨rfl, rfl⟩
  go_wp2
  refine leaves_cons (f := 82) (args := #[.pointer (some ⟨w.heap.size, 0, none⟩)]) (by simp) (by simp [go_sem]) ?_
  refine (rec_number ⟨w.heap.size, 0, none⟩ _).mono ?_
  rintro e u' w'' ⟨rfl, rfl, rfl⟩
  simp [Leaves, settle, results, Tryd.results81, go_sem]
  exact (Below.refl _ _).alloc (Nat.le_refl _) _
end Go.Proofs.YtfjdogpjckipbaaDoor
