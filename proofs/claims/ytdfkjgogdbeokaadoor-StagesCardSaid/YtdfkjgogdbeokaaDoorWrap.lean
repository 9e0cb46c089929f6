/-
  DERIVED. flow.wrappedBy and flow.ends at a sentinel.
-/
import Derived.Test.YtdfkjgogdbeokaaDoorBase
import Derived.Test.YtdfkjgogdbeokaaDoorAsUs
import Derived.Defers
import Derived.Deep.RegionWith
import Derived.Recover
import Derived.Laws.Pointers
namespace Go.Proofs.YtdfkjgogdbeokaaDoor
open Go.RowKit Go.Extern.Stop Go.Stop Go.Extern

set_option maxHeartbeats 1000000 in
theorem wrapped_sent (a : Addr) (w : World) (hg : EtCell w) :
    Calls Tryd.prog 19 #[.iface 153 (.pointer (some a))] w fun e w' => e = .returned (.slice none 0 0) ∧ Below w.heap.size w w' := by
  have hmf : ∀ (fn : Fn) (first cap : Array Value) (w : World), (Instr.makeFunc fn first cap).run Tryd.prog w = .ok (.func fn first cap) w := fun _ _ _ _ => rfl
  have hg1 := (hg.alloc (.cells #[.slice none 0 0] 31)).alloc (.cells #[.nilIface] 90)
  go_enter_defers Tryd.func19, Tryd.ntmps19
  go_wp2_with (go_at_call 30; refine (unwrap_sent _ _).mono ?_; rintro e w' ⟨rfl, rfl⟩)
  refine (as_missUs _ _ _ hg1).mono ?_
  rintro e w1 ⟨rfl, hb⟩
  obtain ⟨hc, hf⟩ := bcell hb
  have hz : w.heap.size + 1 < w1.heap.size := by have := hb.size; simp at this; omega
  have hc0 : w1.cell? ⟨w.heap.size, 0, none⟩ = some (.slice none 0 0) := by rw [hc _ _ (by simp; omega)]; simp
  have hf0 : w1.frozen? ⟨w.heap.size, 0, none⟩ = false := by rw [hf _ _ (by simp; omega)]; simp
  clear hc hf
  go_wp2
  refine leaves_cons (f := 29) (args := #[.pointer (some ⟨w.heap.size, 0, none⟩)]) (by simp) (by simp [go_sem]) ?_
  refine (rec_wrap ⟨w.heap.size, 0, none⟩ _).mono ?_
  rintro e u' w'' ⟨rfl, rfl, rfl⟩
  simp [Leaves, settle, results, Tryd.results19, go_sem]
  rw [World.cell?_setCell_same _ _ _ hc0]
  exact ⟨_, rfl, rfl, ((((Below.refl _ _).alloc (Nat.le_refl _) _).alloc (by simp) _).trans (hb.mono (by simp; omega))).setCell (by simp) _⟩

set_option maxHeartbeats 1000000 in
theorem ends_sent (a : Addr) (w : World) (hg : EtCell w) :
    Calls Tryd.prog 13 #[.iface 153 (.pointer (some a))] w fun e w' => e = .returned (.bool true) ∧ Below w.heap.size w w' := by
  have hg1 := hg.alloc (.cells #[.iface 153 (.pointer (some a))] 30)
  go_enter Tryd.func13, Tryd.ntmps13
  go_wp2
  refine wp_loop_rounds 2 ?_
  rw [rounds_succ]
  go_wp2
  go_region_with (go_at_call 19; refine (wrapped_sent _ _ ?_).mono ?_; exact hg1; rintro e w1 ⟨rfl, hb⟩)
  all_goals go_wp2
  all_goals rw [rounds_succ]
  all_goals go_wp2
  all_goals go_ret
  all_goals exact ⟨rfl, (((Below.refl _ _).alloc (Nat.le_refl _) _).drew).trans (hb.mono (by simp))⟩
end Go.Proofs.YtdfkjgogdbeokaaDoor
