/-
  DERIVED. flowlinelaw.kept.
-/
import Derived.Test.YtfjdogpjckipbaaGreatDoorGBase
import Derived.Deep.OwnRows
namespace Go.Proofs.YtfjdogpjckipbaaGreatDoor
open Go.RowKit

theorem Tryz.infoRI : (Tryz.prog.info? 64).map (fun i => (i.zero, i.size, i.bytes)) = some (some (.agg #[.int .i64 0, .int .i64 0, .string ⟨#[]⟩, .int .i64 0, .int .i64 0]), 5, 48) := by kernel_rfl

theorem rowIs_of_owns {w : World} {base g n sz : Nat} {e : TypeId} {xs : List Value} (h : w.ownsRow base e sz (.slice (some ⟨g, 0, none⟩) n n) n xs) : w.rowIs g e (n * sz) (fun i => xs.getD i undef) := by
  obtain ⟨hl, h | ⟨g', cap, cur, hv, hg, hh, hn, hm, hs, ht⟩⟩ := h
  · obtain ⟨h, _⟩ := h
    cases h
  · cases hv
    refine ⟨cur, hh, hs, fun i hi => ?_⟩
    have h1 : cur.toList[i]? = xs[i]? := by rw [← ht, List.getElem?_take_of_lt hi]
    have h2 : i < xs.length := by omega
    rw [← Array.getElem?_toList, h1]
    simp [List.getD, h2]
theorem owns_of_rowIs {w : World} {base g n sz : Nat} {e : TypeId} {f : Nat → Value} {xs : List Value} (h : w.rowIs g e (n * sz) f) (hg : base ≤ g) (hn : n ≤ maxLen) (hl : xs.length = n * sz) (hx : ∀ i, i < n * sz → xs[i]? = some (f i)) : w.ownsRow base e sz (.slice (some ⟨g, 0, none⟩) n n) n xs := by
  obtain ⟨cur, hh, hs, hc⟩ := h
  refine ⟨hl, Or.inr ⟨g, n, cur, rfl, hg, hh, Nat.le_refl _, hn, hs, ?_⟩⟩
  rw [List.take_of_length_le (by simp [hs])]
  apply List.ext_getElem?
  intro i
  by_cases hi : i < n * sz
  · rw [Array.getElem?_toList, hc i hi, hx i hi]
  · rw [List.getElem?_eq_none (by simp [hs]; omega), List.getElem?_eq_none (by omega)]

theorem rc_five (x : It) : (It.rc x).length = 5 := rfl
theorem fc_five (x : It) : (It.fc x).length = 5 := rfl
/-- The item as the document's answer can speak of it. -/
def It.kept (x : It) : It := { x with n := wrap64 (wrap32 x.n) }

/-- What a round of kept does to the row. -/
theorem five_step {xs : List It} {k : Nat} {f : Nat → Value} (hlt : k < xs.length)
    (hf : ∀ i j u, i < k → j < 5 → (It.rc (It.kept (xs.getD i ⟨0, 0, ⟨#[]⟩, 0, 0⟩)))[j]? = some u → f (i * 5 + j) = u) :
    ∀ (i j : Nat) (u : Value), i < k + 1 → j < 5 → (It.rc (It.kept (xs.getD i ⟨0, 0, ⟨#[]⟩, 0, 0⟩)))[j]? = some u →
      (fun q => if q = k * 5 + 1 then Value.int .i64 (wrap64 (wrap32 xs[k].n)) else (fun q => if q = k * 5 + 4 then Value.int .i64 xs[k].im else (fun q => if q = k * 5 + 3 then Value.int .i64 xs[k].re else (fun q => if q = k * 5 + 2 then Value.string xs[k].s else (fun q => if q = k * 5 + 1 then Value.int .i64 xs[k].n else (fun q => if q = k * 5 then Value.int .i64 xs[k].k else f q) q) q) q) q) q) (i * 5 + j) = u := by
  intro i j u hi hj hu
  by_cases hik : i = k
  · subst hik
    have hx : xs.getD i ⟨0, 0, ⟨#[]⟩, 0, 0⟩ = xs[i] := by simp [List.getD, hlt]
    rw [hx] at hu
    have hcase : j = 0 ∨ j = 1 ∨ j = 2 ∨ j = 3 ∨ j = 4 := by omega
    rcases hcase with rfl | rfl | rfl | rfl | rfl <;> simp [It.rc, It.kept] at hu <;> subst hu <;> simp
  · have h1 := hf i j u (by omega) hj hu
    simp only []
    rw [if_neg (by omega), if_neg (by omega), if_neg (by omega), if_neg (by omega), if_neg (by omega), if_neg (by omega)]
    exact h1
theorem full_of {cells : It → List Value} (hc : ∀ x, (cells x).length = 5) {ys : List It} {f : Nat → Value} (hf : ∀ i j u, i < ys.length → j < 5 → (cells (ys.getD i ⟨0, 0, ⟨#[]⟩, 0, 0⟩))[j]? = some u → f (i * 5 + j) = u) :
    ∀ q, q < ys.length * 5 → (ys.flatMap cells)[q]? = some (f q) := by
  intro q hq
  have hi : q / 5 < ys.length := by omega
  have hj : q % 5 < 5 := by omega
  have hx : ys[q / 5]? = some ys[q / 5] := List.getElem?_eq_getElem hi
  have hd : ys.getD (q / 5) ⟨0, 0, ⟨#[]⟩, 0, 0⟩ = ys[q / 5] := by simp [List.getD, hi]
  have h := flat_get hc ys (q / 5) (q % 5) _ hx hj
  have e : q / 5 * 5 + q % 5 = q := by omega
  rw [e] at h
  obtain ⟨u, hu⟩ : ∃ u, (cells ys[q / 5])[q % 5]? = some u := ⟨(cells ys[q / 5])[q % 5]'(by rw [hc]; exact hj), List.getElem?_eq_getElem _⟩
  have h2 := hf (q / 5) (q % 5) u hi hj (by rw [hd]; exact hu)
  rw [e] at h2
  rw [h, hu, h2]
theorem kept_full {xs : List It} {f : Nat → Value} (hf : ∀ i j u, i < xs.length → j < 5 → (It.rc (It.kept (xs.getD i ⟨0, 0, ⟨#[]⟩, 0, 0⟩)))[j]? = some u → f (i * 5 + j) = u) :
    ∀ q, q < xs.length * 5 → ((xs.map It.kept).flatMap It.rc)[q]? = some (f q) := by
  intro q hq
  refine full_of rc_five (ys := xs.map It.kept) (fun i j u hi hj hu => ?_) q (by simpa using hq)
  have hi' : i < xs.length := by simpa using hi
  refine hf i j u hi' hj ?_
  have e : (xs.map It.kept).getD i ⟨0, 0, ⟨#[]⟩, 0, 0⟩ = It.kept (xs.getD i ⟨0, 0, ⟨#[]⟩, 0, 0⟩) := by simp [List.getD, hi']
  rw [e] at hu
  exact hu

set_option maxRecDepth 100000 in
set_option maxHeartbeats 400000 in
theorem kept_any (w : World) (xs : List It) (ap : Option Addr) (cap : Nat) (hr : Reads w (.slice ap xs.length cap) 5 xs.length (xs.flatMap It.rc)) (hlen : xs.length * 48 ≤ 140737488351232) :
    Calls Tryz.prog 28 #[.slice ap xs.length cap] w fun e w' => ∃ v, e = .returned v ∧ w'.ownsRow w.heap.size 64 5 v xs.length ((xs.map It.kept).flatMap It.rc) ∧ Below w.heap.size w w' := by
  obtain ⟨i0, hi, hz0, hz1, hz2⟩ := info_parts Tryz.infoRI
  go_enter Tryz.func28, Tryz.ntmps28
  go_wp2_with (refine wpList_make_full _ rfl (.tmp 6) (.tmp 6) 26 rfl w.heap.size 64 i0 _ 5 Tryz.underlying26 hi hz0 hz1 .i64 .i64 _ _ xs.length rfl rfl rfl rfl (by rw [hz2]; omega) (by unfold maxLen; omega) (Nat.le_refl _) ?_; intro w1 hown hg)
  have hrow := rowIs_of_owns hown
  have hb1 : Below w.heap.size w w1 := (Below.refl _ _).grown hg (Nat.le_refl _) (fun k hk => by cases hk)
  clear hown hg
  have hmx : xs.length ≤ maxLen := by unfold maxLen; omega
  go_loopw [4] (fun t wr => ∃ k : Nat, k ≤ xs.length ∧ t = .int .i64 k ∧ Below w.heap.size w wr ∧ ∃ f, wr.rowIs w.heap.size 64 (xs.length * 5) f ∧ ∀ i j u, i < k → j < 5 → (It.rc (It.kept (xs.getD i ⟨0, 0, ⟨#[]⟩, 0, 0⟩)))[j]? = some u → f (i * 5 + j) = u) (fun t _ => xs.length - (intOf t).toNat)
  case atStart => exact ⟨0, Nat.zero_le _, rfl, hb1, _, hrow, fun i j u hi => by omega⟩
  case round =>
    obtain ⟨k, hk, rfl, hb, f, hf, hfi⟩ := hrel
    by_cases hlt : k < xs.length
    · obtain ⟨b, o, cap', hv, hbl, hc⟩ := hr.five rc_five k hlt
      cases hv
      have hne : ¬ b = w.heap.size := by omega
      have hcr : ∀ j u, j < 5 → (It.rc xs[k])[j]? = some u → wr.cell? ⟨b, o + k * 5 + j, none⟩ = some u := fun j u hj hu => by rw [hb.cell (p := ⟨b, o + k * 5 + j, none⟩) hbl, Nat.add_assoc]; exact hc j u hj hu
      have s0 : wr.cell? ⟨b, o + k * 5, none⟩ = some (.int .i64 xs[k].k) := hcr 0 _ (by omega) rfl
      have s1 := hcr 1 _ (by omega) rfl
      have s2 := hcr 2 _ (by omega) rfl
      have s3 := hcr 3 _ (by omega) rfl
      have s4 := hcr 4 _ (by omega) rfl
      have d0 : wr.cell? ⟨w.heap.size, k * 5, none⟩ = some (f (k * 5)) := hf.cell (by omega)
      have d1 : wr.cell? ⟨w.heap.size, k * 5 + 1, none⟩ = some (f (k * 5 + 1)) := hf.cell (by omega)
      have d2 : wr.cell? ⟨w.heap.size, k * 5 + 2, none⟩ = some (f (k * 5 + 2)) := hf.cell (by omega)
      have d3 : wr.cell? ⟨w.heap.size, k * 5 + 3, none⟩ = some (f (k * 5 + 3)) := hf.cell (by omega)
      have d4 : wr.cell? ⟨w.heap.size, k * 5 + 4, none⟩ = some (f (k * 5 + 4)) := hf.cell (by omega)
      have z0 := hf.frozen (k * 5)
      have z1 := hf.frozen (k * 5 + 1)
      have z2 := hf.frozen (k * 5 + 2)
      have z3 := hf.frozen (k * 5 + 3)
      have z4 := hf.frozen (k * 5 + 4)
      have HF : Hid (∀ i j u, i < k → j < 5 → (It.rc (It.kept (xs.getD i ⟨0, 0, ⟨#[]⟩, 0, 0⟩)))[j]? = some u → f (i * 5 + j) = u) := hfi
      clear hfi hcr hc
      go_wp2
      refine ⟨⟨k + 1, by omega, by go_num, (((((hb.setCell (by simp) _).setCell (by simp) _).setCell (by simp) _).setCell (by simp) _).setCell (by simp) _).setCell (by simp) _, _, (((((hf.set _ _).set _ _).set _ _).set _ _).set _ _).set _ _, ?_⟩, by simp [intOf]; omega⟩
      exact five_step hlt HF.out
    · obtain rfl : k = xs.length := by omega
      go_wp2
      go_ret
      exact ⟨_, rfl, owns_of_rowIs hf (Nat.le_refl _) hmx (by rw [flat_len rc_five]; simp) (kept_full hfi), hb⟩
end Go.Proofs.YtfjdogpjckipbaaGreatDoor
