/-
  DERIVED. flow.wrappedBy, flow.joinedBy, met and atEnd at a sentinel (Tell by a walk).
-/
import Derived.Test.YtfjdogpjckipbaaDoorNumB
import Derived.Test.YtfjdogpjckipbaaDoorAsUs
import Derived.Defers
import Derived.Recover
import Derived.Laws.Pointers
namespace Go.Proofs.YtfjdogpjckipbaaDoor
open Go.RowKit Go.Extern.Stop Go.Stop Go.Extern

set_option maxHeartbeats 1000000 in
theorem wrapped_b (a : Addr) (w : World) :
    Calls Tryd.prog 25 #[.iface 167 (.pointer (some a))] w fun e w' => e = .returned .nilIface ∧ Below w.heap.size w w' := by
  have hmf : ∀ (fn : Fn) (first cap : Array Value) (w : World), (Instr.makeFunc fn first cap).run Tryd.prog w = .ok (.func fn first cap) w := fun _ _ _ _ => rfl
  go_enter_defers Tryd.func25, Tryd.ntmps25
  go_wp2_with (go_at_call 35; refine (unwrap_sent _ _).mono ?_; rintro e w' ⟨rfl, rfl⟩)
  refine leaves_cons (f := 34) (args := #[.pointer (some ⟨w.heap.size, 0, none⟩)]) (by simp) (by simp [go_sem]) ?_
  refine (rec_wrap ⟨w.heap.size, 0, none⟩ _).mono ?_
  rintro e u' w'' ⟨rfl, rfl, rfl⟩
  simp [Leaves, settle, results, Tryd.results25, go_sem]
  exact (Below.refl _ _).alloc (Nat.le_refl _) _

set_option maxHeartbeats 1000000 in
theorem joined_b (a : Addr) (w : World) (hg : EtCell w) :
    Calls Tryd.prog 36 #[.iface 167 (.pointer (some a))] w fun e w' => e = .returned (.slice none 0 0) ∧ Below w.heap.size w w' := by
  have hmf : ∀ (fn : Fn) (first cap : Array Value) (w : World), (Instr.makeFunc fn first cap).run Tryd.prog w = .ok (.func fn first cap) w := fun _ _ _ _ => rfl
  have hg1 := (hg.alloc (.cells #[.slice none 0 0] 31)).alloc (.cells #[.nilIface] 132)
  go_enter_defers Tryd.func36, Tryd.ntmps36
  go_wp2_with fail
  refine (as_missUs _ _ _ hg1).mono ?_
  rintro e w1 ⟨rfl, hb⟩
  obtain ⟨hc, hf⟩ := bcell hb
  have hz : w.heap.size + 1 < w1.heap.size := by have := hb.size; simp at this; omega
  have hc0 : w1.cell? ⟨w.heap.size, 0, none⟩ = some (.slice none 0 0) := by rw [hc _ _ (by simp; omega)]; simp
  have hf0 : w1.frozen? ⟨w.heap.size, 0, none⟩ = false := by rw [hf _ _ (by simp; omega)]; simp
  clear hc hf
  go_wp2
  refine leaves_cons (f := 45) (args := #[.pointer (some ⟨w.heap.size, 0, none⟩)]) (by simp) (by simp [go_sem]) ?_
  refine (rec_join ⟨w.heap.size, 0, none⟩ _).mono ?_
  rintro e u' w'' ⟨rfl, rfl, rfl⟩
  simp [Leaves, settle, results, Tryd.results36, go_sem]
  rw [World.cell?_setCell_same _ _ _ hc0]
  exact ⟨_, rfl, rfl, ((((Below.refl _ _).alloc (Nat.le_refl _) _).alloc (by simp) _).trans (hb.mono (by simp; omega))).setCell (by simp) _⟩

theorem Tryd.noStE (v : Value) (w : World) : (Instr.typeAssert (.iface 167 v) 30 50 true).run Tryd.prog w = .ok (.tuple #[.pointer none, .bool false]) w := by kernel_rfl
theorem Tryd.noSyE (v : Value) (w : World) : (Instr.typeAssert (.iface 167 v) 30 51 true).run Tryd.prog w = .ok (.tuple #[.pointer none, .bool false]) w := by kernel_rfl
/-- met at a sentinel: nothing. -/
theorem met_b (f : Addr) (a : Addr) (w : World) :
    Calls Tryd.prog 80 #[.pointer (some f), .iface 167 (.pointer (some a))] w fun e w' => e = .returned (.tuple #[]) ∧ w' = w := by
  have n1 := Tryd.noStE
  have n2 := Tryd.noSyE
  go_enter Tryd.func80, Tryd.ntmps80
  go_wp2
  go_end0
  exact ⟨rfl, rfl⟩
end Go.Proofs.YtfjdogpjckipbaaDoor
