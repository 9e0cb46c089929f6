/-
  DERIVED. slices.Index over the seven errors; plain.Different.
-/
import Derived.Test.YtfjdogpjckipbaaDoorTellB
namespace Go.Proofs.YtfjdogpjckipbaaDoor
open Go.RowKit Go.Extern.Stop Go.Stop Go.Extern

/-- '==' between the i-th and the j-th. -/
theorem eql_sents {a : Nat → Addr} {w : World} (h : Sents a w) (i j : Nat) (hi : i < 7) (hj : j < 7) (hne : i ≠ j) :
    (binOp .eql 30 (.iface 167 (.pointer (some (a i)))) (.iface 167 (.pointer (some (a j))))).run Tryd.prog w = .ok (.bool false) w := by
  obtain ⟨i', hi', hcmp⟩ := Option.map_eq_some_iff.1 Tryd.isComp
  obtain ⟨j', hj', hjs⟩ := Option.map_eq_some_iff.1 Tryd.isSize
  obtain ⟨ca, ta, ha⟩ := h.row i hi
  obtain ⟨cb, tb, hb⟩ := h.row j hj
  exact run_eql_iface_ptr_other (P := Tryd.prog) w Tryd.underlying30 Tryd.underlying167 hi' hcmp hj' (by rw [hjs]; decide) (h.ne i j hi hj hne) ha hb
theorem eql_same (a : Addr) (w : World) :
    (binOp .eql 30 (.iface 167 (.pointer (some a))) (.iface 167 (.pointer (some a)))).run Tryd.prog w = .ok (.bool true) w := by
  obtain ⟨i', hi', hcmp⟩ := Option.map_eq_some_iff.1 Tryd.isComp
  obtain ⟨j', hj', hjs⟩ := Option.map_eq_some_iff.1 Tryd.isSize
  exact run_eql_iface_ptr_same (P := Tryd.prog) w a Tryd.underlying30 Tryd.underlying167 hi' hcmp hj'

set_option maxHeartbeats 400000 in
set_option maxRecDepth 100000 in
theorem index_sents {a : Nat → Addr} {w : World} (h : Sents a w) (b : Nat) (hl : ∀ j, j < 7 → w.cell? ⟨b, j, none⟩ = some (.iface 167 (.pointer (some (a j))))) (i : Nat) (hi : i < 7) :
    Calls Tryd.prog 7 #[.slice (some ⟨b, 0, none⟩) 7 7, .iface 167 (.pointer (some (a i)))] w fun e w' => e = .returned (.int .i64 i) ∧ w' = w := by
  go_enter Tryd.func7, Tryd.ntmps7
  go_wp2
  go_loop [8] (fun t => ∃ k : Nat, k ≤ i ∧ t = .int .i64 k) (fun t => 8 - (intOf t).toNat)
  case atStart => exact ⟨0, Nat.zero_le _, rfl⟩
  case round =>
    obtain ⟨k, hk, rfl⟩ := hrel
    have hk7 : k < 7 := by omega
    have hlk := hl k hk7
    by_cases hlt : k < i
    · have he := eql_sents h i k hi hk7 (by omega)
      clear hl h
      go_wp2
      go_round
      case rel => exact ⟨k + 1, by omega, by go_num⟩
      case measure => simp [intOf]; omega
    · obtain rfl : k = i := by omega
      have he := eql_same (a k) w
      clear hl h
      go_wp2
      go_ret
      exact ⟨rfl, rfl⟩

/-- The block of the slice that Different makes. -/
def seven (a : Nat → Addr) : Obj := .cells #[.iface 167 (.pointer (some (a 0))), .iface 167 (.pointer (some (a 1))), .iface 167 (.pointer (some (a 2))), .iface 167 (.pointer (some (a 3))), .iface 167 (.pointer (some (a 4))), .iface 167 (.pointer (some (a 5))), .iface 167 (.pointer (some (a 6)))] 30
theorem seven_cell (a : Nat → Addr) (w : World) (j : Nat) (hj : j < 7) : (w.alloc (seven a)).cell? ⟨w.heap.size, j, none⟩ = some (.iface 167 (.pointer (some (a j)))) := by
  unfold seven
  rw [World.cell?_alloc_new]
  have hcase : j = 0 ∨ j = 1 ∨ j = 2 ∨ j = 3 ∨ j = 4 ∨ j = 5 ∨ j = 6 := by omega
  rcases hcase with rfl | rfl | rfl | rfl | rfl | rfl | rfl <;> rfl

set_option maxRecDepth 100000 in
set_option maxHeartbeats 1000000 in
theorem different_sents {a : Nat → Addr} {w : World} (h : Sents a w) :
    Calls Tryd.prog 5 #[] w fun e w' => e = .returned (.bool true) ∧ Below w.heap.size w w' := by
  have c0 : w.cell? ⟨0, 0, none⟩ = some (.iface 167 (.pointer (some (a 0)))) := h.cell 0 (by omega)
  have c1 : w.cell? ⟨1, 0, none⟩ = some (.iface 167 (.pointer (some (a 1)))) := h.cell 1 (by omega)
  have c2 : w.cell? ⟨2, 0, none⟩ = some (.iface 167 (.pointer (some (a 2)))) := h.cell 2 (by omega)
  have c3 : w.cell? ⟨3, 0, none⟩ = some (.iface 167 (.pointer (some (a 3)))) := h.cell 3 (by omega)
  have c4 : w.cell? ⟨4, 0, none⟩ = some (.iface 167 (.pointer (some (a 4)))) := h.cell 4 (by omega)
  have c5 : w.cell? ⟨5, 0, none⟩ = some (.iface 167 (.pointer (some (a 5)))) := h.cell 5 (by omega)
  have c6 : w.cell? ⟨6, 0, none⟩ = some (.iface 167 (.pointer (some (a 6)))) := h.cell 6 (by omega)
  have h1 := h.alloc (seven a)
  have hb0 : Below w.heap.size w (w.alloc (seven a)) := (Below.refl _ _).alloc (Nat.le_refl _) _
  have hs := seven_cell a w
  go_enter Tryd.func5, Tryd.ntmps5
  go_wp2
  clear c0 c1 c2 c3 c4 c5 c6
  go_loopw [14] (fun t wr => ∃ k : Nat, k ≤ 7 ∧ t = .int .i64 k ∧ Below (w.alloc (seven a)).heap.size (w.alloc (seven a)) wr) (fun t _ => 8 - (intOf t).toNat)
  case atStart => exact ⟨0, Nat.zero_le _, rfl, Below.refl _ _⟩
  case round =>
    obtain ⟨k, hk, rfl, hb⟩ := hrel
    by_cases hlt : k < 7
    · have hr := h1.below hb
      have hl : ∀ j, j < 7 → wr.cell? ⟨w.heap.size, j, none⟩ = some (.iface 167 (.pointer (some (a j)))) := fun j hj => by
        rw [hb.cell (p := ⟨w.heap.size, j, none⟩) (by simp)]; exact hs j hj
      have hck := hl k hlt
      have HL : Hid (∀ j, j < 7 → wr.cell? ⟨w.heap.size, j, none⟩ = some (.iface 167 (.pointer (some (a j))))) := hl
      clear hl hs
      go_wp2_with fail
      refine (index_sents hr w.heap.size HL.out k hlt).mono ?_
      rintro e w' ⟨rfl, rfl⟩
      go_wp2_with fail
      refine (tell_sents hr k hlt).mono ?_
      rintro e w2 ⟨rfl, hb2⟩
      go_wp2_with fail
      exact ⟨⟨k + 1, by omega, by go_num, hb.trans (hb2.mono hb.size)⟩, by simp [intOf]; omega⟩
    · go_wp2
      go_ret
      exact ⟨rfl, hb0.trans (hb.mono (by simp))⟩

theorem names_sents {a : Nat → Addr} {w : World} (h : Sents a w) :
    Calls Tryd.prog 3 #[] w fun e w' => e = .returned (.bool true) ∧ Below w.heap.size w w' := by
  go_enter Tryd.func3, Tryd.ntmps3
  go_wp2_with fail
  refine (different_sents h).mono ?_
  rintro e w1 ⟨rfl, hb⟩
  go_wp2
  go_ret
  exact ⟨rfl, hb⟩
end Go.Proofs.YtfjdogpjckipbaaDoor
