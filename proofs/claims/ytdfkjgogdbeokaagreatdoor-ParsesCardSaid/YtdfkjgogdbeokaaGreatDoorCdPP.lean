/-
  DERIVED. flow.Tell at nil and at a *SyntaxError.
-/
import Derived.Test.YtdfkjgogdbeokaaGreatDoorSyH
import Derived.Test.YtdfkjgogdbeokaaGreatDoorTell
import Derived.Test.YtdfkjgogdbeokaaGreatDoorCdParse
import Derived.Deep.RegionHeld3
namespace Go.Proofs.YtdfkjgogdbeokaaGreatDoor
open Go.RowKit Go.Extern.Stop Go.Stop Go.Extern

theorem tell_nil (w : World) :
    Calls Tryz.prog 43 #[.nilIface] w fun e w' => e = .returned (.agg #[.int .i64 0, .int .i64 0, .string ⟨#[]⟩]) ∧ Below w.heap.size w w' := by
  go_enter Tryz.func43, Tryz.ntmps43
  go_wp2
  refine bodyPost_ret (v := .agg #[.int .i64 0, .int .i64 0, .string ⟨#[]⟩]) (by simp [results, Tryz.results43, go_sem]) rfl ⟨rfl, ?_⟩
  exact (Below.refl _ _).alloc (Nat.le_refl _) _

set_option maxHeartbeats 1000000 in
theorem wrapped_syn {a : Nat → Addr} {w : World} (h : Sents a w) (j : Addr) :
    Calls Tryz.prog 82 #[.iface 149 (.pointer (some j))] w fun e w' => ∃ g, e = .returned (.slice (some ⟨g, 0, none⟩) 1 1) ∧ w.heap.size ≤ g ∧ w'.heap[g]? = some (.cells #[.iface 241 (.pointer (some (a 0)))] 99 (0, 0)) ∧ Below w.heap.size w w' := by
  have hmf : ∀ (fn : Fn) (first cap : Array Value) (w : World), (Instr.makeFunc fn first cap).run Tryz.prog w = .ok (.func fn first cap) w := fun _ _ _ _ => rfl
  have h1 := h.alloc (.cells #[.slice none 0 0] 95)
  go_enter_defers Tryz.func82, Tryz.ntmps82
  go_wp2_with (go_at_call 104; refine (unwrap_syn h1 _).mono ?_; rintro e w' ⟨rfl, rfl⟩)
  refine leaves_cons (f := 103) (args := #[.pointer (some ⟨w.heap.size, 0, none⟩)]) (by simp) (by simp [go_sem]) ?_
  refine (rec_wrap ⟨w.heap.size, 0, none⟩ _).mono ?_
  rintro e u' w'' ⟨rfl, rfl, rfl⟩
  simp [Leaves, settle, results, Tryz.results82, go_sem]
  refine ⟨?_, ((Below.refl _ _).alloc (Nat.le_refl _) _).alloc (by simp) _⟩
  have := heap_alloc_new (w.alloc (.cells #[.slice (some ⟨w.heap.size + 1, 0, none⟩) 1 1] 95)) (.cells #[.iface 241 (.pointer (some (a 0)))] 99)
  simpa using this

set_option maxHeartbeats 2000000 in
theorem ends_syn {a : Nat → Addr} {w : World} (h : Sents a w) (j : Addr) :
    Calls Tryz.prog 66 #[.iface 149 (.pointer (some j))] w fun e w' => e = .returned (.bool true) ∧ Below w.heap.size w w' := by
  have h1 := h.alloc (.cells #[.iface 149 (.pointer (some j))] 99)
  go_enter Tryz.func66, Tryz.ntmps66
  go_wp2
  refine wp_loop_rounds 3 ?_
  rw [rounds_succ]
  go_wp2
  have y0 : (w.alloc (.cells #[.iface 149 (.pointer (some j))] 99)).cell? ⟨w.heap.size, 0, none⟩ = some (.iface 149 (.pointer (some j))) := by simp
  have hz0 : (w.alloc (.cells #[.iface 149 (.pointer (some j))] 99)).heap.size = w.heap.size + 1 := by simp
  have b0 : Below w.heap.size w (w.alloc (.cells #[.iface 149 (.pointer (some j))] 99)) := (Below.refl _ _).alloc (Nat.le_refl _) _
  have f0 : (w.alloc (.cells #[.iface 149 (.pointer (some j))] 99)).frozen? ⟨w.heap.size, 0, none⟩ = false := by simp
  generalize w.alloc (.cells #[.iface 149 (.pointer (some j))] 99) = w0 at *
  have W1 := wrapped_syn (h1.below ((Below.refl _ _).drew)) j
  have y0d : w0.drew.cell? ⟨w.heap.size, 0, none⟩ = some (.iface 149 (.pointer (some j))) := y0
  have f0d : w0.drew.frozen? ⟨w.heap.size, 0, none⟩ = false := f0
  have hzd : w.heap.size < w0.drew.heap.size := by rw [show w0.drew.heap.size = w0.heap.size from rfl, hz0]; exact Nat.lt_succ_self _
  go_region_with (go_at_call 82; with_reducible refine W1.mono ?_; rintro e w1 ⟨g, rfl, hg, hgr, hb1⟩; have y1 : w1.cell? ⟨w.heap.size, 0, none⟩ = some (.iface 149 (.pointer (some j))) := (hb1.cell (p := ⟨w.heap.size, 0, none⟩) hzd).trans y0d; have f1 : w1.frozen? ⟨w.heap.size, 0, none⟩ = false := (hb1.frozen (p := ⟨w.heap.size, 0, none⟩) hzd).trans f0d; have cg : w1.cell? ⟨g, 0, none⟩ = some (.iface 241 (.pointer (some (a 0)))) := (by simp [World.cell?, hgr]))
  all_goals go_wp2
  all_goals rw [rounds_succ]
  have hbw : Below w.heap.size w w1 := b0.trans (((Below.refl _ _).drew).trans (hb1.mono (by omega)))
  have hb2 : Below w.heap.size w (w1.setCell ⟨w.heap.size, 0, none⟩ (.iface 241 (.pointer (some (a 0))))) := hbw.setCell (Nat.le_refl _) _
  have y2 : (w1.setCell ⟨w.heap.size, 0, none⟩ (.iface 241 (.pointer (some (a 0))))).cell? ⟨w.heap.size, 0, none⟩ = some (.iface 241 (.pointer (some (a 0)))) := World.cell?_setCell_same _ _ _ y1
  have f2 : (w1.setCell ⟨w.heap.size, 0, none⟩ (.iface 241 (.pointer (some (a 0))))).frozen? ⟨w.heap.size, 0, none⟩ = false := by simpa using f1
  have S2 := h.below hb2
  clear y0 y0d f0 f0d hz0 hzd W1 hg hgr hb1 y1 f1 cg h1 b0
  generalize w1.setCell ⟨w.heap.size, 0, none⟩ (.iface 241 (.pointer (some (a 0)))) = w2 at *
  have W2 := wrapped_sent (a 0) w2.drew (S2.et.below ((Below.refl _ _).drew))
  have y2d : w2.drew.cell? ⟨w.heap.size, 0, none⟩ = some (.iface 241 (.pointer (some (a 0)))) := y2
  go_wp2
  go_region_with (go_at_call 82; with_reducible refine W2.mono ?_; rintro e w3 ⟨rfl, hb3⟩)
  all_goals go_wp2
  all_goals rw [rounds_succ]
  all_goals go_wp2
  all_goals go_ret
  all_goals exact ⟨rfl, hb2.trans (((Below.refl _ _).drew).trans (hb3.mono hb2.size))⟩

set_option maxHeartbeats 1000000 in
theorem number_syn {a : Nat → Addr} {w : World} (h : Sents a w) (j : Addr) :
    Calls Tryz.prog 68 #[.iface 149 (.pointer (some j))] w fun e w' => e = .returned (.int .i64 1) ∧ Below w.heap.size w w' := by
  have hmf : ∀ (fn : Fn) (first cap : Array Value) (w : World), (Instr.makeFunc fn first cap).run Tryz.prog w = .ok (.func fn first cap) w := fun _ _ _ _ => rfl
  have h1 := h.alloc (.cells #[.int .i64 0] 3)
  have c0 : (w.alloc (.cells #[.int .i64 0] 3)).cell? ⟨2, 0, none⟩ = some (.iface 241 (.pointer (some (a 0)))) := h1.cell 0 (by omega)
  go_enter_defers Tryz.func68, Tryz.ntmps68
  go_wp2_with fail
  refine (is_syn h1 _).mono ?_
  rintro e w' ⟨rfl, rfl⟩
  go_wp2
  refine leaves_cons (f := 85) (args := #[.pointer (some ⟨w.heap.size, 0, none⟩)]) (by simp) (by simp [go_sem]) ?_
  refine (rec_number ⟨w.heap.size, 0, none⟩ _).mono ?_
  rintro e u' w'' ⟨rfl, rfl, rfl⟩
  simp [Leaves, settle, results, Tryz.results68, go_sem]
  exact (Below.refl _ _).alloc (Nat.le_refl _) _
end Go.Proofs.YtdfkjgogdbeokaaGreatDoor
namespace Go.Proofs.YtdfkjgogdbeokaaGreatDoor
open Go.RowKit Go.Extern.Stop Go.Stop Go.Extern

set_option maxHeartbeats 2000000 in
theorem place_syn {a : Nat → Addr} {w : World} (h : Sents a w) (j : Nat) (p : Int) (hj : w.heap[j]? = some (.cells #[.int .i64 p] 151 (0, 0))) :
    Calls Tryz.prog 67 #[.iface 149 (.pointer (some ⟨j, 0, none⟩))] w fun e w' => e = .returned (.tuple #[.int .i64 p, .string ⟨#[]⟩]) ∧ Below w.heap.size w w' := by
  have hmf : ∀ (fn : Fn) (first cap : Array Value) (w : World), (Instr.makeFunc fn first cap).run Tryz.prog w = .ok (.func fn first cap) w := fun _ _ _ _ => rfl
  have h1 := ((h.alloc (.cells #[.int .i64 0] 3)).alloc (.cells #[.string ⟨#[]⟩] 9)).alloc (.cells #[.pointer none] 168)
  have hjl : j < w.heap.size := by
    rcases Nat.lt_or_ge j w.heap.size with h1 | h1
    · exact h1
    · rw [Array.getElem?_eq_none h1] at hj; cases hj
  go_enter_defers Tryz.func67, Tryz.ntmps67
  go_wp2_with fail
  refine (as_missStY h1 _ _).mono ?_
  rintro e w1 ⟨rfl, hb⟩
  have hz : w.heap.size + 2 < w1.heap.size := by have := hb.size; simp at this; omega
  obtain ⟨hc, hf⟩ := bcell hb
  have c0 : w1.cell? ⟨w.heap.size, 0, none⟩ = some (.int .i64 0) := by rw [hc _ _ (by simp; omega)]; simp [go_sem]
  have c1 : w1.cell? ⟨w.heap.size + 1, 0, none⟩ = some (.string ⟨#[]⟩) := by rw [hc _ _ (by simp)]; simp [go_sem]
  have f0 : w1.frozen? ⟨w.heap.size, 0, none⟩ = false := by rw [hf _ _ (by simp; omega)]; simp [go_sem]
  have f1 : w1.frozen? ⟨w.heap.size + 1, 0, none⟩ = false := by rw [hf _ _ (by simp)]; simp [go_sem]
  have cj : w1.cell? ⟨j, 0, none⟩ = some (.int .i64 p) := by
    rw [hc _ _ (by simp; omega), World.cell?_alloc_lt _ _ ⟨j, 0, none⟩ (by simp; omega), World.cell?_alloc_lt _ _ ⟨j, 0, none⟩ (by simp; omega), World.cell?_alloc_lt _ _ ⟨j, 0, none⟩ hjl]
    simp [World.cell?, hj]
  have bw1 : Below w.heap.size w w1 := ((((Below.refl _ _).alloc (Nat.le_refl _) _).alloc (by simp) _).alloc (by simp; omega) _).trans (hb.mono (by simp; omega))
  have hg2 := (h.below bw1).et.alloc (.cells #[.pointer none] 149)
  clear hc hf hb h1
  go_wp2_with fail
  refine (as_hitSyY ⟨j, 0, none⟩ ⟨w1.heap.size, 0, none⟩ (.pointer none) _ hg2 (by simp) (by simp)).mono ?_
  rintro e w2 ⟨rfl, hw2⟩
  have t2 : w2.cell? ⟨w1.heap.size, 0, none⟩ = some (.pointer (some ⟨j, 0, none⟩)) := by
    rw [hw2]
    refine World.cell?_setCell_same _ _ _ (?_ : _ = some (Value.pointer none))
    rw [World.cell?_alloc_lt _ _ ⟨w1.heap.size, 0, none⟩ (by simp; omega), World.cell?_alloc_lt _ _ ⟨w1.heap.size, 0, none⟩ (by simp; omega), World.cell?_alloc_lt _ _ ⟨w1.heap.size, 0, none⟩ (by simp; omega), World.cell?_alloc_lt _ _ ⟨w1.heap.size, 0, none⟩ (by simp)]
    simp
  have b12 : Below w1.heap.size w1 w2 := by
    rw [hw2]
    exact ((((((Below.refl _ _).alloc (Nat.le_refl _) _).alloc (by simp) _).alloc (by simp; omega) _).alloc (by simp; omega) _).alloc (by simp; omega) _).setCell (Nat.le_refl _) _
  clear hw2
  obtain ⟨hc, hf⟩ := bcell b12
  have d0 : w2.cell? ⟨w.heap.size, 0, none⟩ = some (.int .i64 0) := by rw [hc _ _ (by omega)]; exact c0
  have d1 : w2.cell? ⟨w.heap.size + 1, 0, none⟩ = some (.string ⟨#[]⟩) := by rw [hc _ _ (by omega)]; exact c1
  have e0 : w2.frozen? ⟨w.heap.size, 0, none⟩ = false := by rw [hf _ _ (by omega)]; exact f0
  have e1 : w2.frozen? ⟨w.heap.size + 1, 0, none⟩ = false := by rw [hf _ _ (by omega)]; exact f1
  have dj : w2.cell? ⟨j, 0, none⟩ = some (.int .i64 p) := by rw [hc _ _ (by omega)]; exact cj
  have bw2 : Below w.heap.size w w2 := bw1.trans (b12.mono bw1.size)
  have hz2 := b12.size
  clear hc hf c0 c1 f0 f1 cj
  go_wp2
  refine leaves_cons (f := 83) (args := #[.pointer (some ⟨w.heap.size, 0, none⟩), .pointer (some ⟨w.heap.size + 1, 0, none⟩)]) (by simp) (by simp [go_sem]) ?_
  refine (rec_place ⟨w.heap.size, 0, none⟩ ⟨w.heap.size + 1, 0, none⟩ _).mono ?_
  rintro e u' w'' ⟨rfl, rfl, rfl⟩
  simp [Leaves, settle, results, Tryz.results67, go_sem]
  have q0 : (w2.setCell ⟨w.heap.size, 0, none⟩ (.int .i64 p)).cell? ⟨w.heap.size, 0, none⟩ = some (.int .i64 p) := World.cell?_setCell_same _ _ _ d0
  have q1 : ((w2.setCell ⟨w.heap.size, 0, none⟩ (.int .i64 p)).setCell ⟨w.heap.size + 1, 0, none⟩ (.string ⟨#[]⟩)).cell? ⟨w.heap.size + 1, 0, none⟩ = some (.string ⟨#[]⟩) :=
    World.cell?_setCell_same _ _ _ (by rw [World.cell?_setCell_other _ _ _ _ (by simp)]; exact d1)
  rw [q0]
  simp only [Result.andThen, q1]
  exact ⟨_, rfl, rfl, (bw2.setCell (by simp) _).setCell (by simp) _⟩

/-- flow.Tell at a *SyntaxError. -/
theorem tell_syn {a : Nat → Addr} {w : World} (h : Sents a w) (j : Nat) (p : Int) (hj : w.heap[j]? = some (.cells #[.int .i64 p] 151 (0, 0))) :
    Calls Tryz.prog 43 #[.iface 149 (.pointer (some ⟨j, 0, none⟩))] w fun e w' => e = .returned (.agg #[.int .i64 1, .int .i64 p, .string ⟨#[]⟩]) ∧ Below w.heap.size w w' := by
  have h1 := h.alloc (.cells #[.int .i64 0, .int .i64 0, .string ⟨#[]⟩] 60)
  have hjl : j < w.heap.size := by
    rcases Nat.lt_or_ge j w.heap.size with h1 | h1
    · exact h1
    · rw [Array.getElem?_eq_none h1] at hj; cases hj
  go_enter Tryz.func43, Tryz.ntmps43
  go_wp2_with fail
  refine (ends_syn h1 _).mono ?_
  rintro e w1 ⟨rfl, hb1⟩
  have h2 := h1.below hb1
  have hj1 : w1.heap[j]? = some (.cells #[.int .i64 p] 151 (0, 0)) := by rw [hb1.block j (by simp; omega), Below.heap_alloc _ _ _ hjl]; exact hj
  go_wp2_with fail
  refine (place_syn h2 j p hj1).mono ?_
  rintro e w2 ⟨rfl, hb2⟩
  have h3 := h2.below hb2
  go_wp2_with fail
  refine (number_syn h3 _).mono ?_
  rintro e w3 ⟨rfl, hb3⟩
  have hb := (hb1.trans (hb2.mono hb1.size)).trans (hb3.mono (Nat.le_trans hb1.size hb2.size))
  obtain ⟨hc, hf⟩ := bcell hb
  have c0 : w3.cell? ⟨w.heap.size, 0, none⟩ = some (.int .i64 0) := by rw [hc _ _ (by simp)]; simp [go_sem]
  have c1 : w3.cell? ⟨w.heap.size, 1, none⟩ = some (.int .i64 0) := by rw [hc _ _ (by simp)]; simp [go_sem]
  have c2 : w3.cell? ⟨w.heap.size, 2, none⟩ = some (.string ⟨#[]⟩) := by rw [hc _ _ (by simp)]; simp [go_sem]
  have f0 : w3.frozen? ⟨w.heap.size, 0, none⟩ = false := by rw [hf _ _ (by simp)]; simp [go_sem]
  have f1 : w3.frozen? ⟨w.heap.size, 1, none⟩ = false := by rw [hf _ _ (by simp)]; simp [go_sem]
  have f2 : w3.frozen? ⟨w.heap.size, 2, none⟩ = false := by rw [hf _ _ (by simp)]; simp [go_sem]
  have hz : w.heap.size < w3.heap.size := by have := hb.size; simp at this; omega
  clear hc hf
  go_wp2
  obtain ⟨q0, q1, q2⟩ := three (y0 := .int .i64 1) (y1 := .int .i64 p) (y2 := .string ⟨#[]⟩) c0 c1 c2
  refine bodyPost_ret (v := .agg #[.int .i64 1, .int .i64 p, .string ⟨#[]⟩]) (by simp [results, Tryz.results43, go_sem, q0, q1, q2]) rfl ⟨rfl, ?_⟩
  exact (((((Below.refl _ _).alloc (Nat.le_refl _) _).trans (hb.mono (by simp))).setCell (by simp) _).setCell (by simp) _).setCell (by simp) _
end Go.Proofs.YtdfkjgogdbeokaaGreatDoor
namespace Go.Proofs.YtdfkjgogdbeokaaGreatDoor
open Go.RowKit
set_option linter.unusedVariables false

theorem grown_of_below {w w' : World} (h : Below w.heap.size w w') : w.grownBy w' none := ⟨h.os, h.tape, h.output, h.size, fun k hk _ => h.block k hk⟩
theorem below_of_grown {w w' : World} (h : w.grownBy w' none) : Below w.heap.size w w' := ⟨h.os, h.tape, h.output, h.size, fun k hk => h.block k hk (by simp)⟩
/-- What plain.Parse answers at a text that is not too long. -/
def PPost (w : World) (s : ByteArray) (R : Rs) (e : Ending) (w' : World) : Prop :=
  w.grownBy w' none ∧
  ((R.1 = true ∧ e = .returned (.tuple #[.pointer none, .agg #[.int .i64 1, .int .i64 R.2.1, .string ⟨#[]⟩]])) ∨
   (R.1 = false ∧ 12 < R.2.2.length ∧ e = .returned (.tuple #[.pointer none, .agg #[.int .i64 3, .int .i64 0, .string ⟨#[]⟩]])) ∨
   (R.1 = false ∧ R.2.2.length ≤ 12 ∧ ∃ j v, ∃ r : Row, e = .returned (.tuple #[.pointer (some ⟨j, 0, none⟩), .agg #[.int .i64 0, .int .i64 0, .string ⟨#[]⟩]]) ∧ w.heap.size ≤ j ∧ w'.heap[j]? = some (.cells #[.string s, v] 91 (0, 0)) ∧
      RowAt w' v r.vals ∧ r.lies w' (fun k => w.heap.size ≤ k) ∧ r.names = R.2.2 ∧ r.numd 0))

def fltO : Obj := .cells #[.int .i64 0, .int .i64 0, .string ⟨#[]⟩] 60
set_option maxRecDepth 100000 in
set_option maxHeartbeats 1000000 in
theorem pparse_gen (w : World) (s : ByteArray) (C : Ending → World → Prop)
    (hP : Calls Tryz.prog 51 #[.string s] (w.alloc fltO) fun e w1 => ∃ pv ev f0 f1 f2, e = .returned (.tuple #[pv, ev]) ∧ (w.alloc fltO).grownBy w1 none ∧
      Calls Tryz.prog 43 #[ev] w1 (fun e2 w2 => e2 = .returned (.agg #[.int .i64 f0, .int .i64 f1, .string f2]) ∧ Below w1.heap.size w1 w2) ∧
      ∀ w', w1.grownBy w' (some w.heap.size) → C (.returned (.tuple #[pv, .agg #[.int .i64 f0, .int .i64 f1, .string f2]])) w') :
    Calls Tryz.prog 30 #[.string s] w C := by
  go_enter Tryz.func30, Tryz.ntmps30
  go_wp2_with fail
  refine Calls.mono (show Calls _ _ _ (w.alloc fltO) _ from hP) ?_
  rintro e w1 ⟨pv, ev, f0, f1, f2, rfl, g1, hT, hC⟩
  have hr1 : w1.heap[w.heap.size]? = some fltO := by rw [g1.block _ (by simp) (by simp)]; exact heap_alloc_new _ _
  have hz1 : w.heap.size < w1.heap.size := lt_of_some hr1
  have HC : Hid (∀ w', w1.grownBy w' (some w.heap.size) → C (.returned (.tuple #[pv, .agg #[.int .i64 f0, .int .i64 f1, .string f2]])) w') := hC
  clear hC hP
  go_wp2_with fail
  refine hT.mono ?_
  rintro e w2 ⟨rfl, hb⟩
  have hr2 : w2.heap[w.heap.size]? = some (.cells #[.int .i64 0, .int .i64 0, .string ⟨#[]⟩] 60 (0, 0)) := by rw [hb.block _ hz1]; exact hr1
  have c0 : w2.cell? ⟨w.heap.size, 0, none⟩ = some (.int .i64 0) := by simp [World.cell?, hr2]
  have c1 : w2.cell? ⟨w.heap.size, 1, none⟩ = some (.int .i64 0) := by simp [World.cell?, hr2]
  have c2 : w2.cell? ⟨w.heap.size, 2, none⟩ = some (.string ⟨#[]⟩) := by simp [World.cell?, hr2]
  have z0 : w2.frozen? ⟨w.heap.size, 0, none⟩ = false := by simp [World.frozen?, hr2]
  have z1 : w2.frozen? ⟨w.heap.size, 1, none⟩ = false := by simp [World.frozen?, hr2]
  have z2 : w2.frozen? ⟨w.heap.size, 2, none⟩ = false := by simp [World.frozen?, hr2]
  obtain ⟨q0, q1, q2⟩ := three (y0 := .int .i64 f0) (y1 := .int .i64 f1) (y2 := .string f2) c0 c1 c2
  clear hT
  go_wp2
  refine bodyPost_ret (v := .tuple #[pv, .agg #[.int .i64 f0, .int .i64 f1, .string f2]]) (by simp [results, Tryz.results30, go_sem, q0, q1, q2]) rfl (HC.out _ ?_)
  have gb : w1.grownBy w2 (some w.heap.size) := ⟨hb.os, hb.tape, hb.output, hb.size, fun k hk _ => hb.block k hk⟩
  exact ((gb.trans (grown_set _ _ _ _)).trans (grown_set _ _ _ _)).trans (grown_set _ _ _ _)

theorem up_grown {w w1 w' : World} {O : Obj} (g1 : (w.alloc O).grownBy w1 none) (g : w1.grownBy w' (some w.heap.size)) : w.grownBy w' none := by
  have hz := g1.size
  simp at hz
  exact ⟨g.os.trans g1.os, g.tape.trans g1.tape, g.output.trans g1.output, Nat.le_trans (by omega) g.size, fun k hk _ => (g.block k (by omega) (by simp; omega)).trans ((g1.block k (by simp; omega) (by simp)).trans (Below.heap_alloc _ _ _ hk))⟩

theorem pparse_long (a : Nat → Addr) (w : World) (s : ByteArray) (hS : Sents a w) (h : 120 < s.size) :
    Calls Tryz.prog 30 #[.string s] w fun e w' => e = .returned (.tuple #[.pointer none, .agg #[.int .i64 2, .int .i64 0, .string ⟨#[]⟩]]) ∧ w.grownBy w' none := by
  refine pparse_gen w s _ ?_
  refine (parse_long a (w.alloc fltO) s (hS.alloc _) h).mono ?_
  rintro e w1 ⟨rfl, g1⟩
  have hT := tell_sents ((hS.alloc fltO).below (below_of_grown g1)) 1 (by omega)
  exact ⟨_, _, _, _, _, rfl, g1, hT, fun w' g => ⟨rfl, up_grown g1 g⟩⟩

theorem pparse_short (a : Nat → Addr) (w : World) (s : ByteArray) (hS : Sents a w) (hG : PatG w) (h : s.size ≤ 120) :
    Calls Tryz.prog 30 #[.string s] w fun e w' => PPost w s (pR s) e w' := by
  refine pparse_gen w s _ ?_
  have hz : (w.alloc fltO).heap.size = w.heap.size + 1 := by simp
  refine (parse_short a (w.alloc fltO) s (hS.alloc _) (hG.grown (grown_alloc w fltO none) (by simp)) h).mono ?_
  rintro e w1 ⟨g1, hh⟩
  have hS1 := (hS.alloc fltO).below (below_of_grown g1)
  rcases hh with ⟨hR, j, rfl, hj, hb⟩ | ⟨hR, hl, rfl⟩ | ⟨hR, hl, j, v, r, rfl, hj, hb, hrow, hown, hlies, hn, hnum⟩
  · exact ⟨_, _, _, _, _, rfl, g1, tell_syn hS1 j _ hb, fun w' g => ⟨up_grown g1 g, Or.inl ⟨hR, rfl⟩⟩⟩
  · exact ⟨_, _, _, _, _, rfl, g1, tell_sents hS1 2 (by omega), fun w' g => ⟨up_grown g1 g, Or.inr (Or.inl ⟨hR, hl, rfl⟩)⟩⟩
  · refine ⟨_, _, _, _, _, rfl, g1, tell_nil w1, fun w' g => ⟨up_grown g1 g, Or.inr (Or.inr ⟨hR, hl, j, v, r, rfl, by omega, ?_, ?_, ?_, hn, hnum⟩)⟩⟩
    · rw [g.block j (lt_of_some hb) (by simp; omega)]; exact hb
    · refine rowAt_kept hrow g (Or.inr (fun e => ?_))
      have := hown _ e
      omega
    · exact Row.lies_law (fun k hk _ => by omega) _ (Row.lies_kept g (fun k e hk => by cases e; omega) _ hlies)
end Go.Proofs.YtdfkjgogdbeokaaGreatDoor
