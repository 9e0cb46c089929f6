/-
  DERIVED. flow.addOne and flow.Tally over items.
-/
import Derived.Test.YtfjdogpjckipbaaGreatDoorMapL
import Derived.Defers
import Derived.Recover
import Derived.BigRegion
namespace Go.Proofs.YtfjdogpjckipbaaGreatDoor
open Go.RowKit

/-- The function that addOne defers, where nothing panics. -/
theorem rec_add (w : World) :
    CallsD Tryz.prog 194 #[] .returning w fun e u' w' => e = .returned (.tuple #[]) ∧ u' = .returning ∧ w' = w := by
  refine callsD_of_wpS Tryz.func194 rfl fun c₀ cs hu => ?_
  apply wpS_region
  simp [wpOpsS, go_sem, recoverD, hu, Tryz.ntmps194]
  cases c₀
  simp_all [bodyPostS, results, Tryz.results194]

set_option maxRecDepth 100000 in
theorem addOne_any (x : It) (m : Nat) (w : World) (xs : List It) (h : MapIs w m xs) (hok : ∀ y ∈ xs, y.ok) (hx : x.ok) (hl : xs.length ≤ 140737488351232) :
    Calls Tryz.prog 169 #[.map (some m), x.v] w fun e w' => e = .returned (.tuple #[]) ∧ MapIs w' m (xs ++ [x]) ∧ w.grownBy w' (some m) := by
  have h1 : MapIs (w.alloc (.cells #[.int .i64 x.k, .int .i32 x.n, .string x.s, .int .i64 x.re, .int .i64 x.im] 47)).drew m xs := h.below (((Below.refl w.heap.size w).alloc (Nat.le_refl _) _).drew) h.lt
  have hlk := lookup_item h1 hok hx
  obtain ⟨v0, st, w1, w2, he, hlk1, hs, hm2, ho, ht, hu, hz, hbk⟩ := entry_item h1 hok hx
  have hcl := cnt_le x xs
  have hci : ((cnt x xs : Nat) : Int) ≤ 140737488351232 := by omega
  unfold It.v at hlk he hlk1
  unfold It.v
  go_enter_defers Tryz.func169, Tryz.ntmps169
  go_wp2
  go_region
  go_wp2
  refine leaves_cons (f := 194) (args := #[]) (by simp) (by simp [go_sem]) ?_
  refine (rec_add _).mono ?_
  rintro e u' w'' ⟨rfl, rfl, rfl⟩
  simp [Leaves, settle, results, Tryz.results169, go_sem]
  refine ⟨hm2, ⟨ho, ht, hu, by rw [hz]; simp, fun k hk hne => ?_⟩⟩
  rw [hbk k (fun e => hne (by rw [e]))]
  exact Below.heap_alloc _ _ _ hk

set_option maxRecDepth 100000 in
set_option maxHeartbeats 400000 in
theorem tally_any (w : World) (xs : List It) (ap : Option Addr) (cap : Nat) (hr : Reads w (.slice ap xs.length cap) 5 xs.length (xs.flatMap It.fc)) (hok : ∀ y ∈ xs, y.ok) (hlen : xs.length * 48 ≤ 140737488351232) :
    Calls Tryz.prog 127 #[.slice ap xs.length cap] w fun e w' => e = .returned (.map (some w.heap.size)) ∧ MapIs w' w.heap.size xs ∧ Below w.heap.size w w' := by
  have hmm := @run_makeMap Tryz.prog
  have hst : MapIs (w.alloc (.map #[] 0)) w.heap.size [] := ⟨#[], 0, by show (w.heap.push _)[w.heap.size]? = _; simp, ⟨by simp, by simp, by simp⟩, by simp, by simp⟩
  go_enter Tryz.func127, Tryz.ntmps127
  go_wp2
  go_loopw [9] (fun t wr => ∃ k : Nat, k ≤ xs.length ∧ t = .int .i64 k ∧ MapIs wr w.heap.size (xs.take k) ∧ Below w.heap.size w wr) (fun t _ => xs.length - (intOf t).toNat)
  case atStart => exact ⟨0, Nat.zero_le _, rfl, hst, (Below.refl _ _).alloc (Nat.le_refl _) _⟩
  case round =>
    obtain ⟨k, hk, rfl, hm, hb⟩ := hrel
    by_cases hlt : k < xs.length
    · obtain ⟨b, o, cap', hv, hbl, hc⟩ := hr.five fc_five k hlt
      cases hv
      have hcr : ∀ j u, j < 5 → (It.fc xs[k])[j]? = some u → wr.cell? ⟨b, o + k * 5 + j, none⟩ = some u := fun j u hj hu => by rw [hb.cell (p := ⟨b, o + k * 5 + j, none⟩) hbl, Nat.add_assoc]; exact hc j u hj hu
      have s0 : wr.cell? ⟨b, o + k * 5, none⟩ = some (.int .i64 xs[k].k) := hcr 0 _ (by omega) rfl
      have s1 := hcr 1 _ (by omega) rfl
      have s2 := hcr 2 _ (by omega) rfl
      have s3 := hcr 3 _ (by omega) rfl
      have s4 := hcr 4 _ (by omega) rfl
      have HT : Hid (xs.take (k + 1) = xs.take k ++ [xs[k]]) := take_snoc' xs k hlt
      have HO : Hid (∀ y ∈ xs.take k, y.ok) := fun y hy => hok y (List.mem_of_mem_take hy)
      have HX : Hid (xs[k].ok) := hok _ (List.getElem_mem hlt)
      have hmr : MapIs (wr.alloc (.cells #[.int .i64 xs[k].k, .int .i32 xs[k].n, .string xs[k].s, .int .i64 xs[k].re, .int .i64 xs[k].im] 47)) w.heap.size (xs.take k) := hm.below ((Below.refl wr.heap.size wr).alloc (Nat.le_refl _) _) hm.lt
      have hbr : Below w.heap.size w (wr.alloc (.cells #[.int .i64 xs[k].k, .int .i32 xs[k].n, .string xs[k].s, .int .i64 xs[k].re, .int .i64 xs[k].im] 47)) := hb.alloc hb.size _
      clear hc hcr
      go_wp2_with fail
      refine (addOne_any xs[k] w.heap.size _ (xs.take k) hmr HO.out HX.out (by simp; omega)).mono ?_
      rintro e w1 ⟨rfl, hm1, hg1⟩
      go_wp2
      refine ⟨⟨k + 1, by omega, by go_num, by rw [HT.out]; exact hm1, hbr.grown hg1 (by simp; have := hb.size; omega) (fun q hq => by cases hq; exact Nat.le_refl _)⟩, by simp [intOf]; omega⟩
    · obtain rfl : k = xs.length := by omega
      go_wp2
      go_ret
      exact ⟨rfl, by simpa using hm, hb⟩
end Go.Proofs.YtfjdogpjckipbaaGreatDoor
