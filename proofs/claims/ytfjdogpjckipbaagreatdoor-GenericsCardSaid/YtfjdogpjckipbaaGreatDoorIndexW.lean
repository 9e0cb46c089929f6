/-
  DERIVED. slices.Index and slices.Contains over items.
-/
import Derived.Test.YtfjdogpjckipbaaGreatDoorTallyW
import Derived.Deep.QuietTactic
import Derived.BigQuiet
namespace Go.Proofs.YtfjdogpjckipbaaGreatDoor
open Go.RowKit

theorem eql_items {x y : It} (hx : x.ok) (hy : y.ok) (w : World) : (binOp .eql 47 x.v y.v).run Tryz.prog w = .ok (.bool (It.same x y)) w := by
  obtain ⟨lx, hlx⟩ := item_key x hx
  obtain ⟨ly, hly⟩ := item_key y hy
  obtain ⟨r, hr, hiff⟩ := run_equal_deep (P := Tryz.prog) w (m := 3) (by omega) (k := 47) (by kernel_rfl) (by kernel_rfl) hlx hly
  have e : r = It.same x y := by
    rw [Bool.eq_iff_iff, hiff, same_iff]
    constructor
    · intro h
      subst h
      exact v_inj (Tryz.keyLaw.inj hlx hly)
    · intro h
      subst h
      exact Option.some.inj (hlx.symm.trans hly)
  subst e
  have hbo : binOp .eql 47 x.v y.v = Value.bool <$> Op.equal 47 x.v y.v := rfl
  rw [hbo]
  simp [hr]

/-- Where an item stands in a list first; -1: nowhere. -/
def pos (x : It) : List It → Nat → Int
  | [], _ => -1
  | y :: ys, i => if It.same x y then i else pos x ys (i + 1)
theorem pos_drop (x : It) (xs : List It) (k : Nat) (h : k < xs.length) : pos x (xs.drop k) k = if It.same x xs[k] then (k : Int) else pos x (xs.drop (k + 1)) (k + 1) := by
  rw [List.drop_eq_getElem_cons h]
  rfl

set_option maxRecDepth 100000 in
set_option maxHeartbeats 400000 in
theorem index_items (w : World) (x : It) (xs : List It) (ap : Option Addr) (cap : Nat) (hr : Reads w (.slice ap xs.length cap) 5 xs.length (xs.flatMap It.fc)) (hx : x.ok) (hok : ∀ y ∈ xs, y.ok) (hlen : xs.length * 48 ≤ 140737488351232) :
    Calls Tryz.prog 170 #[.slice ap xs.length cap, x.v] w fun e w' => e = .returned (.int .i64 (pos x xs 0)) ∧ Below w.heap.size w w' := by
  have hb0 : Below w.heap.size w (w.alloc (.cells #[.int .i64 x.k, .int .i32 x.n, .string x.s, .int .i64 x.re, .int .i64 x.im] 47)) := (Below.refl _ _).alloc (Nat.le_refl _) _
  have hbx : ∀ j u, j < 5 → (It.fc x)[j]? = some u → (w.alloc (.cells #[.int .i64 x.k, .int .i32 x.n, .string x.s, .int .i64 x.re, .int .i64 x.im] 47)).cell? ⟨w.heap.size, j, none⟩ = some u := fun j u hj hu => by
    rw [World.cell?_alloc_new]
    have hcase : j = 0 ∨ j = 1 ∨ j = 2 ∨ j = 3 ∨ j = 4 := by omega
    rcases hcase with rfl | rfl | rfl | rfl | rfl <;> simpa [It.fc] using hu
  have HE : Hid (∀ y ∈ xs, ∀ W : World, (binOp .eql 47 x.v y.v).run Tryz.prog W = .ok (.bool (It.same x y)) W) := fun y hy W => eql_items hx (hok y hy) W
  have HB : Hid (∀ j u, j < 5 → (It.fc x)[j]? = some u → (w.alloc (.cells #[.int .i64 x.k, .int .i32 x.n, .string x.s, .int .i64 x.re, .int .i64 x.im] 47)).cell? ⟨w.heap.size, j, none⟩ = some u) := hbx
  clear hbx
  unfold It.v
  go_enter Tryz.func170, Tryz.ntmps170
  go_wp2
  go_loopw [8] (fun t wr => ∃ k : Nat, k ≤ xs.length ∧ t = .int .i64 k ∧ pos x xs 0 = pos x (xs.drop k) k ∧ Below (w.heap.size + 1) (w.alloc (.cells #[.int .i64 x.k, .int .i32 x.n, .string x.s, .int .i64 x.re, .int .i64 x.im] 47)) wr) (fun t _ => xs.length - (intOf t).toNat)
  case atStart => exact ⟨0, Nat.zero_le _, rfl, rfl, Below.refl _ _⟩
  case round =>
    obtain ⟨k, hk, rfl, hpos, hb⟩ := hrel
    by_cases hlt : k < xs.length
    · obtain ⟨b, o, cap', hv, hbl, hc⟩ := hr.five fc_five k hlt
      cases hv
      have hcr : ∀ j u, j < 5 → (It.fc xs[k])[j]? = some u → wr.cell? ⟨b, o + k * 5 + j, none⟩ = some u := fun j u hj hu => by
        rw [hb.cell (p := ⟨b, o + k * 5 + j, none⟩) (Nat.lt_succ_of_lt hbl), World.cell?_alloc_lt _ _ ⟨b, o + k * 5 + j, none⟩ hbl, Nat.add_assoc]; exact hc j u hj hu
      have s0 : wr.cell? ⟨b, o + k * 5, none⟩ = some (.int .i64 xs[k].k) := hcr 0 _ (by omega) rfl
      have s1 := hcr 1 _ (by omega) rfl
      have s2 := hcr 2 _ (by omega) rfl
      have s3 := hcr 3 _ (by omega) rfl
      have s4 := hcr 4 _ (by omega) rfl
      have hbr : ∀ j u, j < 5 → (It.fc x)[j]? = some u → wr.cell? ⟨w.heap.size, j, none⟩ = some u := fun j u hj hu => by
        rw [hb.cell (p := ⟨w.heap.size, j, none⟩) (Nat.lt_succ_self _)]; exact HB.out j u hj hu
      have r0 : wr.cell? ⟨w.heap.size, 0, none⟩ = some (.int .i64 x.k) := hbr 0 _ (by omega) rfl
      have r1 := hbr 1 _ (by omega) rfl
      have r2 := hbr 2 _ (by omega) rfl
      have r3 := hbr 3 _ (by omega) rfl
      have r4 := hbr 4 _ (by omega) rfl
      have he := HE.out xs[k] (List.getElem_mem hlt)
      have HP : Hid (pos x xs 0 = if It.same x xs[k] then (k : Int) else pos x (xs.drop (k + 1)) (k + 1)) := by
        show _ = _
        rw [hpos]; exact pos_drop x xs k hlt
      unfold It.v at he
      clear hc hcr hbr hpos
      cases hsm : It.same x xs[k]
      · rw [hsm] at he
        go_wp2
        go_quiet (fail)
        go_wp2
        exact ⟨⟨k + 1, by omega, by go_num, by rw [HP.out, hsm]; rfl, below_drewN hb _⟩, by simp [intOf]; omega⟩
      · rw [hsm] at he
        go_wp2
        go_quiet (fail)
        go_wp2
        go_ret
        exact ⟨by rw [HP.out, hsm]; rfl, hb0.trans ((below_drewN hb _).mono (by omega))⟩
    · obtain rfl : k = xs.length := by omega
      have HP : Hid (pos x xs 0 = -1) := by
        show _ = _
        rw [hpos]; simp [pos]
      clear hpos
      go_wp2
      go_ret
      exact ⟨by rw [HP.out]; rfl, hb0.trans (hb.mono (by omega))⟩

/-- Does an item stand in a list? -/
def has (x : It) (xs : List It) : Bool := decide ((0 : Int) ≤ pos x xs 0)
theorem pos_ge (x : It) : ∀ (xs : List It) (i : Nat), ((0 : Int) ≤ pos x xs i) ↔ x ∈ xs
  | [], i => by simp [pos]
  | y :: ys, i => by
    unfold pos
    cases h : It.same x y
    · have hne : x ≠ y := fun e => by rw [(same_iff x y).2 e] at h; cases h
      simp [pos_ge x ys (i + 1), hne]
    · have := (same_iff x y).1 h
      subst this
      simp
theorem has_iff (x : It) (xs : List It) : has x xs = true ↔ x ∈ xs := by
  unfold has
  rw [decide_eq_true_iff, pos_ge]

set_option maxRecDepth 100000 in
theorem contains_items (w : World) (x : It) (xs : List It) (ap : Option Addr) (cap : Nat) (hr : Reads w (.slice ap xs.length cap) 5 xs.length (xs.flatMap It.fc)) (hx : x.ok) (hok : ∀ y ∈ xs, y.ok) (hlen : xs.length * 48 ≤ 140737488351232) :
    Calls Tryz.prog 128 #[.slice ap xs.length cap, x.v] w fun e w' => e = .returned (.bool (has x xs)) ∧ Below w.heap.size w w' := by
  have hb0 : Below w.heap.size w (w.alloc (.cells #[.int .i64 x.k, .int .i32 x.n, .string x.s, .int .i64 x.re, .int .i64 x.im] 47)) := (Below.refl _ _).alloc (Nat.le_refl _) _
  have hr1 := hr.below hb0
  have HI : Hid (Calls Tryz.prog 170 #[.slice ap xs.length cap, x.v] (w.alloc (.cells #[.int .i64 x.k, .int .i32 x.n, .string x.s, .int .i64 x.re, .int .i64 x.im] 47)) fun e w' => e = .returned (.int .i64 (pos x xs 0)) ∧ Below (w.alloc (.cells #[.int .i64 x.k, .int .i32 x.n, .string x.s, .int .i64 x.re, .int .i64 x.im] 47)).heap.size (w.alloc (.cells #[.int .i64 x.k, .int .i32 x.n, .string x.s, .int .i64 x.re, .int .i64 x.im] 47)) w') := index_items _ x xs ap cap hr1 hx hok hlen
  unfold It.v at HI
  unfold It.v
  go_enter Tryz.func128, Tryz.ntmps128
  go_wp2_with fail
  refine HI.out.mono ?_
  rintro e w1 ⟨rfl, hb1⟩
  go_wp2
  go_ret
  exact ⟨rfl, hb0.trans (hb1.mono (by simp))⟩
end Go.Proofs.YtfjdogpjckipbaaGreatDoor
