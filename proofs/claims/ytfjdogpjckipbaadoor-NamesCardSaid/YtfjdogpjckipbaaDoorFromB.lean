/-
  DERIVED. walkFrom at a sentinel (Tell by a walk).
-/
import Derived.Test.YtfjdogpjckipbaaDoorAlongB
namespace Go.Proofs.YtfjdogpjckipbaaDoor
open Go.RowKit Go.Extern.Stop Go.Stop Go.Extern

set_option maxHeartbeats 1000000 in
theorem from_b {a : Nat → Addr} {w : World} (k f F0 : Nat) (n : Int) (h : Sents a w) (hF : Fd w f 8) (hn : n < 8) (hF0 : F0 ≤ f)
    (hnum : ∀ w1, Sents a w1 → Calls Tryd.prog 81 #[.iface 167 (.pointer (some (a k)))] w1 fun e w' => e = .returned (.int .i64 n) ∧ Below w1.heap.size w1 w') :
    Calls Tryd.prog 13 #[.iface 167 (.pointer (some (a k))), .iface 55 (.pointer (some ⟨f, 0, none⟩))] w fun e w' => e = .returned (.bool true) ∧ Fd w' f n ∧ Below F0 w w' := by
  have hl := hF.lt
  go_enter Tryd.func13, Tryd.ntmps13
  go_wp2_with fail
  refine wp_loop_rounds 2 ?_
  rw [rounds_succ]
  go_wp2_with fail
  have hb0 : Below w.heap.size w ((w.alloc (.cells #[.iface 167 (.pointer (some (a k)))] 30)).alloc (.cells #[.iface 55 (.pointer (some ⟨f, 0, none⟩)), .int .i64 0, .int .i64 0, .slice (some ⟨w.heap.size, 0, none⟩) 0 1] 72)) := ((Below.refl _ _).alloc (Nat.le_refl _) _).alloc (by simp) _
  have hW0 : Wk ((w.alloc (.cells #[.iface 167 (.pointer (some (a k)))] 30)).alloc (.cells #[.iface 55 (.pointer (some ⟨f, 0, none⟩)), .int .i64 0, .int .i64 0, .slice (some ⟨w.heap.size, 0, none⟩) 0 1] 72)) (w.heap.size + 1) f 0 (.slice (some ⟨w.heap.size, 0, none⟩) 0 1) := by
    unfold Wk
    have e : ∀ (v : World) (x : Obj), (v.alloc x).heap[v.heap.size]? = some x := fun v x => by
      show (v.heap.push x)[v.heap.size]? = some x
      simp
    have e1 : w.heap.size + 1 = (w.alloc (.cells #[.iface 167 (.pointer (some (a k)))] 30)).heap.size := by simp
    rw [e1]
    exact e _ _
  have hne : w.heap.size + 1 ≠ f := by omega
  refine (along_b k f (w.heap.size + 1) F0 (.slice (some ⟨w.heap.size, 0, none⟩) 0 1) n (h.below hb0) (hF.below hb0) hW0 hn hF0 hnum).mono ?_
  rintro e w2 ⟨rfl, hF2, hb2, ho2⟩
  have ho := (ho2 hne).trans hW0
  have q3 : w2.cell? ⟨w.heap.size + 1, 3, none⟩ = some (.slice (some ⟨w.heap.size, 0, none⟩) 0 1) := by simp [World.cell?, ho]
  go_wp2_with fail
  rw [rounds_succ]
  go_wp2
  go_ret
  exact ⟨rfl, hF2, (hb0.mono (Nat.le_trans hF0 (Nat.le_of_lt hl))).trans hb2⟩
end Go.Proofs.YtfjdogpjckipbaaDoor
