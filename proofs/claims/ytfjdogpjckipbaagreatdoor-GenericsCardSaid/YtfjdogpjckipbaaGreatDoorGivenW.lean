/-
  DERIVED. flowlinelaw.given.
-/
import Derived.Test.YtfjdogpjckipbaaGreatDoorKeptW
import Derived.BigRegion
namespace Go.Proofs.YtfjdogpjckipbaaGreatDoor
open Go.RowKit

theorem Tryz.infoFI : (Tryz.prog.info? 47).map (fun i => (i.zero, i.size, i.bytes)) = some (some (.agg #[.int .i64 0, .int .i32 0, .string ⟨#[]⟩, .int .i64 0, .int .i64 0]), 5, 48) := by kernel_rfl

/-- The item as it is handed over. -/
def It.given (x : It) : It := { x with n := wrap32 x.n }

theorem given_step {xs : List It} {k : Nat} {f : Nat → Value} (hlt : k < xs.length)
    (hf : ∀ i j u, i < k → j < 5 → (It.fc (It.given (xs.getD i ⟨0, 0, ⟨#[]⟩, 0, 0⟩)))[j]? = some u → f (i * 5 + j) = u) :
    ∀ (i j : Nat) (u : Value), i < k + 1 → j < 5 → (It.fc (It.given (xs.getD i ⟨0, 0, ⟨#[]⟩, 0, 0⟩)))[j]? = some u →
      (fun q => if q = k * 5 + 4 then Value.int .i64 xs[k].im else (fun q => if q = k * 5 + 3 then Value.int .i64 xs[k].re else (fun q => if q = k * 5 + 2 then Value.string xs[k].s else (fun q => if q = k * 5 + 1 then Value.int .i32 (wrap32 xs[k].n) else (fun q => if q = k * 5 then Value.int .i64 xs[k].k else f q) q) q) q) q) (i * 5 + j) = u := by
  intro i j u hi hj hu
  by_cases hik : i = k
  · subst hik
    have hx : xs.getD i ⟨0, 0, ⟨#[]⟩, 0, 0⟩ = xs[i] := by simp [List.getD, hlt]
    rw [hx] at hu
    have hcase : j = 0 ∨ j = 1 ∨ j = 2 ∨ j = 3 ∨ j = 4 := by omega
    rcases hcase with rfl | rfl | rfl | rfl | rfl <;> simp [It.fc, It.given] at hu <;> subst hu <;> simp
  · have h1 := hf i j u (by omega) hj hu
    simp only []
    rw [if_neg (by omega), if_neg (by omega), if_neg (by omega), if_neg (by omega), if_neg (by omega)]
    exact h1
theorem given_full {xs : List It} {f : Nat → Value} (hf : ∀ i j u, i < xs.length → j < 5 → (It.fc (It.given (xs.getD i ⟨0, 0, ⟨#[]⟩, 0, 0⟩)))[j]? = some u → f (i * 5 + j) = u) :
    ∀ q, q < xs.length * 5 → ((xs.map It.given).flatMap It.fc)[q]? = some (f q) := by
  intro q hq
  refine full_of fc_five (ys := xs.map It.given) (fun i j u hi hj hu => ?_) q (by simpa using hq)
  have hi' : i < xs.length := by simpa using hi
  refine hf i j u hi' hj ?_
  have e : (xs.map It.given).getD i ⟨0, 0, ⟨#[]⟩, 0, 0⟩ = It.given (xs.getD i ⟨0, 0, ⟨#[]⟩, 0, 0⟩) := by simp [List.getD, hi']
  rw [e] at hu
  exact hu

set_option maxRecDepth 100000 in
set_option maxHeartbeats 400000 in
theorem given_any (w : World) (xs : List It) (ap : Option Addr) (cap : Nat) (hr : Reads w (.slice ap xs.length cap) 5 xs.length (xs.flatMap It.rc)) (hlen : xs.length * 48 ≤ 140737488351232) :
    Calls Tryz.prog 20 #[.slice ap xs.length cap] w fun e w' => ∃ v, e = .returned v ∧ w'.ownsRow w.heap.size 47 5 v xs.length ((xs.map It.given).flatMap It.fc) ∧ Below w.heap.size w w' := by
  obtain ⟨i0, hi, hz0, hz1, hz2⟩ := info_parts Tryz.infoFI
  go_enter Tryz.func20, Tryz.ntmps20
  go_wp2_with (refine wpList_make_full _ rfl (.tmp 6) (.tmp 6) 29 rfl w.heap.size 47 i0 _ 5 Tryz.underlying29 hi hz0 hz1 .i64 .i64 _ _ xs.length rfl rfl rfl rfl (by rw [hz2]; omega) (by unfold maxLen; omega) (Nat.le_refl _) ?_; intro w1 hown hg)
  have hrow := rowIs_of_owns hown
  have hb1 : Below w.heap.size w w1 := (Below.refl _ _).grown hg (Nat.le_refl _) (fun k hk => by cases hk)
  clear hown hg
  have hmx : xs.length ≤ maxLen := by unfold maxLen; omega
  go_loopw [4] (fun t wr => ∃ k : Nat, k ≤ xs.length ∧ t = .int .i64 k ∧ Below w.heap.size w wr ∧ ∃ f, wr.rowIs w.heap.size 47 (xs.length * 5) f ∧ ∀ i j u, i < k → j < 5 → (It.fc (It.given (xs.getD i ⟨0, 0, ⟨#[]⟩, 0, 0⟩)))[j]? = some u → f (i * 5 + j) = u) (fun t _ => xs.length - (intOf t).toNat)
  case atStart => exact ⟨0, Nat.zero_le _, rfl, hb1, _, hrow, fun i j u hi => by omega⟩
  case round =>
    obtain ⟨k, hk, rfl, hb, f, hf, hfi⟩ := hrel
    by_cases hlt : k < xs.length
    · obtain ⟨b, o, cap', hv, hbl, hc⟩ := hr.five rc_five k hlt
      cases hv
      have hne : ¬ b = w.heap.size := by omega
      have hcr : ∀ j u, j < 5 → (It.rc xs[k])[j]? = some u → wr.cell? ⟨b, o + k * 5 + j, none⟩ = some u := fun j u hj hu => by rw [hb.cell (p := ⟨b, o + k * 5 + j, none⟩) hbl, Nat.add_assoc]; exact hc j u hj hu
      have s0 : wr.cell? ⟨b, o + k * 5, none⟩ = some (.int .i64 xs[k].k) := hcr 0 _ (by omega) rfl
      have s1 := hcr 1 _ (by omega) rfl
      have s2 := hcr 2 _ (by omega) rfl
      have s3 := hcr 3 _ (by omega) rfl
      have s4 := hcr 4 _ (by omega) rfl
      have d0 : wr.cell? ⟨w.heap.size, k * 5, none⟩ = some (f (k * 5)) := hf.cell (by omega)
      have d1 : wr.cell? ⟨w.heap.size, k * 5 + 1, none⟩ = some (f (k * 5 + 1)) := hf.cell (by omega)
      have d2 : wr.cell? ⟨w.heap.size, k * 5 + 2, none⟩ = some (f (k * 5 + 2)) := hf.cell (by omega)
      have d3 : wr.cell? ⟨w.heap.size, k * 5 + 3, none⟩ = some (f (k * 5 + 3)) := hf.cell (by omega)
      have d4 : wr.cell? ⟨w.heap.size, k * 5 + 4, none⟩ = some (f (k * 5 + 4)) := hf.cell (by omega)
      have z0 := hf.frozen (k * 5)
      have z1 := hf.frozen (k * 5 + 1)
      have z2 := hf.frozen (k * 5 + 2)
      have z3 := hf.frozen (k * 5 + 3)
      have z4 := hf.frozen (k * 5 + 4)
      have HF : Hid (∀ i j u, i < k → j < 5 → (It.fc (It.given (xs.getD i ⟨0, 0, ⟨#[]⟩, 0, 0⟩)))[j]? = some u → f (i * 5 + j) = u) := hfi
      clear hfi hcr hc
      go_wp2
      go_region
      go_wp2
      refine ⟨⟨k + 1, by omega, by go_num, (((((hb.setCell (by simp) _).setCell (by simp) _).setCell (by simp) _).setCell (by simp) _).setCell (by simp) _).drew, _, (((((hf.set _ _).set _ _).set _ _).set _ _).set _ _).drew, ?_⟩, by simp [intOf]; omega⟩
      exact given_step hlt HF.out
    · obtain rfl : k = xs.length := by omega
      go_wp2
      go_ret
      exact ⟨_, rfl, owns_of_rowIs hf (Nat.le_refl _) hmx (by rw [flat_len fc_five]; simp) (given_full hfi), hb⟩
end Go.Proofs.YtfjdogpjckipbaaGreatDoor
