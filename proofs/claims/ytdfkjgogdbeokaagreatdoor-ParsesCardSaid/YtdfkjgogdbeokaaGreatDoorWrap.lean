/-
  DERIVED. flow.wrappedBy and flow.ends at a sentinel.
-/
import Derived.Test.YtdfkjgogdbeokaaGreatDoorBase
import Derived.Test.YtdfkjgogdbeokaaGreatDoorAsUs
import Derived.Defers
import Derived.Deep.RegionWith
import Derived.Recover
import Derived.Laws.Pointers
namespace Go.Proofs.YtdfkjgogdbeokaaGreatDoor
open Go.RowKit Go.Extern.Stop Go.Stop Go.Extern

set_option maxHeartbeats 1000000 in
theorem wrapped_sent (a : Addr) (w : World) (hg : EtCell w) :
    Calls Tryz.prog 82 #[.iface 241 (.pointer (some a))] w fun e w' => e = .returned (.slice none 0 0) ∧ Below w.heap.size w w' := by
  have hmf : ∀ (fn : Fn) (first cap : Array Value) (w : World), (Instr.makeFunc fn first cap).run Tryz.prog w = .ok (.func fn first cap) w := fun _ _ _ _ => rfl
  have hg1 := (hg.alloc (.cells #[.slice none 0 0] 95)).alloc (.cells #[.nilIface] 192)
  go_enter_defers Tryz.func82, Tryz.ntmps82
  go_wp2_with (go_at_call 104; refine (unwrap_sent _ _).mono ?_; rintro e w' ⟨rfl, rfl⟩)
  refine (as_missUs _ _ _ hg1).mono ?_
  rintro e w1 ⟨rfl, hb⟩
  obtain ⟨hc, hf⟩ := bcell hb
  have hz : w.heap.size + 1 < w1.heap.size := by have := hb.size; simp at this; omega
  have hc0 : w1.cell? ⟨w.heap.size, 0, none⟩ = some (.slice none 0 0) := by rw [hc _ _ (by simp; omega)]; simp
  have hf0 : w1.frozen? ⟨w.heap.size, 0, none⟩ = false := by rw [hf _ _ (by simp; omega)]; simp
  clear hc hf
  go_wp2
  refine leaves_cons (f := 103) (args := #[.pointer (some ⟨w.heap.size, 0, none⟩)]) (by simp) (by simp [go_sem]) ?_
  refine (rec_wrap ⟨w.heap.size, 0, none⟩ _).mono ?_
  rintro e u' w'' ⟨rfl, rfl, rfl⟩
  simp [Leaves, settle, results, Tryz.results82, go_sem]
  rw [World.cell?_setCell_same _ _ _ hc0]
  exact ⟨_, rfl, rfl, ((((Below.refl _ _).alloc (Nat.le_refl _) _).alloc (by simp) _).trans (hb.mono (by simp; omega))).setCell (by simp) _⟩

set_option maxHeartbeats 1000000 in
theorem ends_sent (a : Addr) (w : World) (hg : EtCell w) :
    Calls Tryz.prog 66 #[.iface 241 (.pointer (some a))] w fun e w' => e = .returned (.bool true) ∧ Below w.heap.size w w' := by
  have hg1 := hg.alloc (.cells #[.iface 241 (.pointer (some a))] 99)
  go_enter Tryz.func66, Tryz.ntmps66
  go_wp2
  refine wp_loop_rounds 2 ?_
  rw [rounds_succ]
  go_wp2
  go_region_with (go_at_call 82; refine (wrapped_sent _ _ ?_).mono ?_; exact hg1; rintro e w1 ⟨rfl, hb⟩)
  all_goals go_wp2
  all_goals rw [rounds_succ]
  all_goals go_wp2
  all_goals go_ret
  all_goals exact ⟨rfl, (((Below.refl _ _).alloc (Nat.le_refl _) _).drew).trans (hb.mono (by simp))⟩
end Go.Proofs.YtdfkjgogdbeokaaGreatDoor
