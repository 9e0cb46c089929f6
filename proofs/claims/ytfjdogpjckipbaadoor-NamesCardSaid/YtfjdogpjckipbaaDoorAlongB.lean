/-
  DERIVED. along at a sentinel (Tell by a walk).
-/
import Derived.Test.YtfjdogpjckipbaaDoorEndB
namespace Go.Proofs.YtfjdogpjckipbaaDoor
open Go.RowKit Go.Extern.Stop Go.Stop Go.Extern

set_option maxHeartbeats 1000000 in
theorem along_b {a : Nat → Addr} {w : World} (k f b F0 : Nat) (o : Value) (n : Int) (h : Sents a w) (hF : Fd w f 8) (hW : Wk w b f 0 o) (hn : n < 8) (hF0 : F0 ≤ f)
    (hnum : ∀ w1, Sents a w1 → Calls Tryd.prog 81 #[.iface 167 (.pointer (some (a k)))] w1 fun e w' => e = .returned (.int .i64 n) ∧ Below w1.heap.size w1 w') :
    Calls Tryd.prog 18 #[.pointer (some ⟨b, 0, none⟩), .iface 167 (.pointer (some (a k)))] w fun e w' => e = .returned (.bool true) ∧ Fd w' f n ∧ Below F0 w w' ∧ (b ≠ f → w'.heap[b]? = w.heap[b]?) := by
  have mE := Tryd.mMet
  have hl := hF.lt
  have hbl := hW.lt
  go_enter Tryd.func18, Tryd.ntmps18
  go_wp2_with fail
  have hb0 : Below w.heap.size w (w.alloc (.cells #[.pointer none, .int .i64 0, .int .i64 0] 94)) := (Below.refl _ _).alloc (Nat.le_refl _) _
  generalize (w.alloc (.cells #[.pointer none, .int .i64 0, .int .i64 0] 94)) = w0 at hb0 ⊢
  have h0 := h.below hb0
  have hF0' := hF.below hb0
  have hW0 : Wk w0 b f 0 o := by unfold Wk at *; rw [hb0.block b hbl]; exact hW
  have q0 : w0.cell? ⟨b, 0, none⟩ = some (.iface 55 (.pointer (some ⟨f, 0, none⟩))) := by unfold Wk at hW0; simp [World.cell?, hW0]
  have q1 : w0.cell? ⟨b, 1, none⟩ = some (.int .i64 0) := by unfold Wk at hW0; simp [World.cell?, hW0]
  refine wp_loop_rounds 1 ?_
  rw [rounds_succ]
  go_wp2_with fail
  refine (met_b _ _ _).mono ?_
  rintro e w1 ⟨rfl, rfl⟩
  go_wp2_with fail
  refine (wrapped_b _ _).mono ?_
  rintro e w1 ⟨rfl, hb1⟩
  have hbl0 := hW0.lt
  have h1 := h0.below hb1
  have hF1 := hF0'.below hb1
  have hW1 : Wk w1 b f 0 o := by unfold Wk at *; rw [hb1.block b hbl0]; exact hW0
  go_wp2_with fail
  refine (atEnd_b k f b F0 0 o n h1 hF1 hW1 hn hF0 hnum).mono ?_
  rintro e w2 ⟨rfl, hF2, hb2, ho2⟩
  go_wp2
  go_ret
  exact ⟨rfl, hF2, ((hb0.mono (Nat.le_trans hF0 (Nat.le_of_lt hl))).trans (hb1.mono (Nat.le_trans hF0 (Nat.le_of_lt (Nat.lt_of_lt_of_le hl hb0.size))))).trans hb2, fun hne => (ho2 hne).trans ((hb1.block b hbl0).trans (hb0.block b hbl))⟩
end Go.Proofs.YtfjdogpjckipbaaDoor
