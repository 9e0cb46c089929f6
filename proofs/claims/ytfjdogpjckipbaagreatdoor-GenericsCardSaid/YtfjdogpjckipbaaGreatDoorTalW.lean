/-
  DERIVED. plain.Tallied.
-/
import Derived.Test.YtfjdogpjckipbaaGreatDoorTalL
namespace Go.Proofs.YtfjdogpjckipbaaGreatDoor
open Go.RowKit

theorem Tryz.infoInt : (Tryz.prog.info? 3).map (fun i => (i.zero, i.size, i.bytes)) = some (some (.int .i64 0), 1, 8) := by kernel_rfl

theorem owns_row {w : World} {base : Nat} {e : TypeId} {sz n : Nat} {v : Value} {xs : List Value} (h : w.ownsRow base e sz v n xs) : ∀ k, v.ownBlock = some k → base ≤ k := by
  intro k hk
  obtain ⟨_, ⟨h, _⟩ | ⟨g, c, cur, h, hg, _⟩⟩ := h
  · rw [h] at hk; cases hk
  · rw [h] at hk; cases hk; exact hg
theorem owns_block {w : World} {base : Nat} {e : TypeId} {sz n : Nat} {v : Value} {xs : List Value} (h : w.ownsRow base e sz v n xs) : ∀ k, v.ownBlock = some k → k < w.heap.size ∧ ∃ c, w.heap[k]? = some (.cells c e (0, 0)) := by
  intro k hk
  obtain ⟨_, ⟨h, _⟩ | ⟨g, c, cur, h, hg, hh, _⟩⟩ := h
  · rw [h] at hk; cases hk
  · rw [h] at hk
    cases hk
    refine ⟨?_, cur, hh⟩
    rcases Nat.lt_or_ge g w.heap.size with h1 | h1
    · exact h1
    · rw [Array.getElem?_eq_none h1] at hh; cases hh
/-- An owned row stays so where another is written. -/
theorem owns_grown {w w' : World} {base : Nat} {e : TypeId} {sz n : Nat} {v : Value} {xs : List Value} {row : Option Nat} (h : w.ownsRow base e sz v n xs) (hg : w.grownBy w' row) (hne : ∀ k, v.ownBlock = some k → some k ≠ row) : w'.ownsRow base e sz v n xs := by
  obtain ⟨hl, h | ⟨g, cap, cur, hv, hb, hh, r⟩⟩ := h
  · exact ⟨hl, Or.inl h⟩
  · have hlt : g < w.heap.size := by
      rcases Nat.lt_or_ge g w.heap.size with h1 | h1
      · exact h1
      · rw [Array.getElem?_eq_none h1] at hh; cases hh
    exact ⟨hl, Or.inr ⟨g, cap, cur, hv, hb, by rw [hg.block g hlt (hne g (by rw [hv]; rfl))]; exact hh, r⟩⟩
theorem owns_below {w w' : World} {base : Nat} {e : TypeId} {sz n : Nat} {v : Value} {xs : List Value} (h : w.ownsRow base e sz v n xs) (hb : Below w.heap.size w w') : w'.ownsRow base e sz v n xs :=
  owns_grown (row := none) h ⟨hb.os, hb.tape, hb.output, hb.size, fun k hk _ => hb.block k hk⟩ (fun k _ => by simp)

/-- The block of an item in a variable. -/
def It.box (x : It) : Obj := .cells #[.int .i64 x.k, .int .i32 x.n, .string x.s, .int .i64 x.re, .int .i64 x.im] 47
theorem box_cell (x : It) (w : World) : ∀ j u, j < 5 → (It.fc x)[j]? = some u → (w.alloc x.box).cell? ⟨w.heap.size, j, none⟩ = some u := fun j u hj hu => by
  unfold It.box
  rw [World.cell?_alloc_new]
  have hcase : j = 0 ∨ j = 1 ∨ j = 2 ∨ j = 3 ∨ j = 4 := by omega
  rcases hcase with rfl | rfl | rfl | rfl | rfl <;> simpa [It.fc] using hu

set_option maxRecDepth 100000 in
set_option maxHeartbeats 1000000 in
theorem tallied_any (w : World) (xs : List It) (ap : Option Addr) (cap : Nat) (hr : Reads w (.slice ap xs.length cap) 5 xs.length (xs.flatMap It.fc)) (hok : ∀ y ∈ xs, y.ok) (hlen : xs.length * 48 ≤ 140737488351232) :
    Calls Tryz.prog 94 #[.slice ap xs.length cap] w fun e w' => ∃ v u, e = .returned (.tuple #[v, u]) ∧ w'.ownsRow w.heap.size 47 5 v (dd xs).length ((dd xs).flatMap It.fc) ∧ w'.ownsRow w.heap.size 3 1 u (dd xs).length ((dd xs).map fun x => .int .i64 (cnt x xs : Nat)) ∧ Below w.heap.size w w' := by
  obtain ⟨i0, hi, hz0, hz1, hz2⟩ := info_parts Tryz.infoFI
  obtain ⟨j0, gi, gz0, gz1, gz2⟩ := info_parts Tryz.infoInt
  go_enter Tryz.func94, Tryz.ntmps94
  go_wp2_with fail
  refine (tally_any w xs ap cap hr hok hlen).mono ?_
  rintro e w0 ⟨rfl, hm0, hb0⟩
  go_wp2
  go_loopw [5, 6, 13] (fun v u t wr => ∃ k : Nat, k ≤ xs.length ∧ t = .int .i64 k ∧ wr.ownsRow (w.heap.size + 1) 47 5 v (dd (xs.take k)).length ((dd (xs.take k)).flatMap It.fc) ∧ wr.ownsRow (w.heap.size + 1) 3 1 u (dd (xs.take k)).length ((dd (xs.take k)).map fun x => .int .i64 (cnt x xs : Nat)) ∧ MapIs wr w.heap.size xs ∧ Below w.heap.size w wr) (fun _ _ t _ => xs.length - (intOf t).toNat)
  case atStart => exact ⟨0, Nat.zero_le _, rfl, World.ownsRow_nil _ _ _ _, World.ownsRow_nil _ _ _ _, hm0, hb0⟩
  case round =>
    obtain ⟨k, hk, rfl, hv, hu, hm, hb⟩ := hrel
    by_cases hlt : k < xs.length
    · obtain ⟨b, o, cap', hvv, hbl, hc⟩ := hr.five fc_five k hlt
      cases hvv
      have hcr : ∀ j u, j < 5 → (It.fc xs[k])[j]? = some u → wr.cell? ⟨b, o + k * 5 + j, none⟩ = some u := fun j u hj hu => by rw [hb.cell (p := ⟨b, o + k * 5 + j, none⟩) hbl, Nat.add_assoc]; exact hc j u hj hu
      have s0 : wr.cell? ⟨b, o + k * 5, none⟩ = some (.int .i64 xs[k].k) := hcr 0 _ (by omega) rfl
      have s1 := hcr 1 _ (by omega) rfl
      have s2 := hcr 2 _ (by omega) rfl
      have s3 := hcr 3 _ (by omega) rfl
      have s4 := hcr 4 _ (by omega) rfl
      have HX : Hid (xs[k].ok) := hok _ (List.getElem_mem hlt)
      have HO : Hid (∀ y ∈ dd (xs.take k), y.ok) := fun y hy => hok y (List.mem_of_mem_take ((dd_mem _ _).1 hy))
      have HT : Hid (dd (xs.take (k + 1)) = if has xs[k] (dd (xs.take k)) then dd (xs.take k) else dd (xs.take k) ++ [xs[k]]) := by
        show _ = _
        rw [take_snoc' xs k hlt, dd_snoc]
      have hLl : (dd (xs.take k)).length ≤ k := Nat.le_trans (dd_len _) (by simp; omega)
      generalize hL : dd (xs.take k) = L at *
      generalize hL' : dd (xs.take (k + 1)) = L' at *
      have H1 : Hid (dd (xs.take (k + 1)) = L') := hL'
      obtain ⟨va, vc, hva, hvr⟩ := Reads.of_owns hv
      obtain rfl := hva
      have hba : Below wr.heap.size wr (wr.alloc xs[k].box) := (Below.refl _ _).alloc (Nat.le_refl _) _
      have hbox := box_cell xs[k] wr
      have HRd : Hid (Reads (wr.alloc xs[k].box) (.slice va L.length vc) 5 L.length (L.flatMap It.fc)) := (Reads.of_owns hv).below hba
      have HBX : Hid (∀ j u, j < 5 → (It.fc xs[k])[j]? = some u → (wr.alloc xs[k].box).cell? ⟨wr.heap.size, j, none⟩ = some u) := hbox
      clear hc hcr hL hL' hbox hvr
      go_wp2_with fail
      refine (contains_items (wr.alloc xs[k].box) xs[k] L va vc HRd.out HX.out HO.out (by omega)).mono ?_
      rintro e w1 ⟨rfl, hb1⟩
      have hb1w : Below wr.heap.size wr w1 := hba.trans (hb1.mono (by simp))
      have hzw : wr.heap.size < w1.heap.size := by have := hb1.size; simp at this; omega
      cases hh : has xs[k] L
      · rw [hh] at HT
        have H2 : Hid (L' = L ++ [xs[k]]) := HT.out
        have qb : ∀ j u, j < 5 → (It.fc xs[k])[j]? = some u → w1.cell? ⟨wr.heap.size, j, none⟩ = some u := fun j u hj hu => by
          rw [hb1.cell (p := ⟨wr.heap.size, j, none⟩) (by simp)]; exact HBX.out j u hj hu
        have q0 : w1.cell? ⟨wr.heap.size, 0, none⟩ = some (.int .i64 xs[k].k) := qb 0 _ (by omega) rfl
        have q1 := qb 1 _ (by omega) rfl
        have q2 := qb 2 _ (by omega) rfl
        have q3 := qb 3 _ (by omega) rfl
        have q4 := qb 4 _ (by omega) rfl
        have hv1 := (owns_below hv hb1w).alloc xs[k].box
        have hbs := hb.size
        clear qb HT
        go_wp2_with (at_builtin; go_must (refine wpList_append_own _ rfl (.tmp 21) (.tmp 23) 29 rfl (w.heap.size + 1) 47 i0 _ 5 48 Tryz.underlying29 hi hz0 hz1 hz2 rfl (by decide) _ _ _ rfl hv1 ⟨w1.heap.size, 0, none⟩ 1 1 (It.fc xs[k]) rfl rfl ?c1 ?c2 ?c3 ?c4 ?c5 ?_))
        case c1 =>
          intro j u hj
          have h5 : j < 5 := (List.getElem?_eq_some_iff.1 hj).1
          rw [Go.WideShapes.add_plain, Nat.zero_add]
          exact box_cell xs[k] w1 j u h5 hj
        case c2 => intro u hu; simp [It.fc] at hu; rcases hu with rfl | rfl | rfl | rfl | rfl <;> rfl
        case c3 => unfold maxLen; omega
        case c4 => omega
        case c5 => simp; omega
        intro v' w2 hown2 hg2 _
        have hub : ∀ q, (Value.slice va L.length vc).ownBlock = some q → w.heap.size + 1 ≤ q ∧ q < wr.heap.size ∧ ∃ c, wr.heap[q]? = some (.cells c 47 (0, 0)) := fun q hq => ⟨owns_row hv q hq, (owns_block hv q hq).1, (owns_block hv q hq).2⟩
        have hb1a : Below wr.heap.size wr (w1.alloc xs[k].box) := hb1w.alloc (by omega) _
        have hbk2 : ∀ q, q < wr.heap.size + 1 → (∀ r, (Value.slice va L.length vc).ownBlock = some r → q ≠ r) → w2.heap[q]? = (w1.alloc xs[k].box).heap[q]? := fun q hq hne => hg2.block q (by simp; omega) (fun e => hne q e.symm rfl)
        have hm2 : MapIs w2 w.heap.size xs := (hm.below hb1a hm.lt).of_block (hbk2 _ (by omega) (fun r hr => by have := (hub r hr).1; omega))
        have hu2 : w2.ownsRow (w.heap.size + 1) 3 1 u6 L.length (L.map fun x => .int .i64 (cnt x xs : Nat)) := by
          refine owns_grown (owns_below hu hb1a) hg2 (fun q hq e => ?_)
          obtain ⟨c, hc⟩ := (owns_block hu q hq).2
          obtain ⟨_, _, c', hc'⟩ := hub q e.symm
          rw [hc] at hc'
          cases hc'
        have hb2 : Below w.heap.size w w2 := (hb.trans (hb1a.mono hb.size)).grown hg2 (by simp; omega) (fun q hq => by have := (hub q hq).1; omega)
        have rb : ∀ j u, j < 5 → (It.fc xs[k])[j]? = some u → w2.cell? ⟨wr.heap.size, j, none⟩ = some u := fun j u hj hu => by
          have e := hbk2 wr.heap.size (by omega) (fun r hr => by have := (hub r hr).2.1; omega)
          rw [World.cell?_of_block (w := w1.alloc xs[k].box) (a := ⟨wr.heap.size, j, none⟩) e, World.cell?_alloc_lt _ _ ⟨wr.heap.size, j, none⟩ hzw, hb1.cell (p := ⟨wr.heap.size, j, none⟩) (by simp)]
          exact HBX.out j u hj hu
        have r0 : w2.cell? ⟨wr.heap.size, 0, none⟩ = some (.int .i64 xs[k].k) := rb 0 _ (by omega) rfl
        have r1 := rb 1 _ (by omega) rfl
        have r2 := rb 2 _ (by omega) rfl
        have r3 := rb 3 _ (by omega) rfl
        have r4 := rb 4 _ (by omega) rfl
        have hlk := lookup_item hm2 hok HX.out
        unfold It.v at hlk
        have hbs2 := hb2.size
        have HOW : Hid (w2.ownsRow (w.heap.size + 1) 47 5 v' (L.length + 1) (L.flatMap It.fc ++ It.fc xs[k])) := hown2
        clear rb hbk2 hub q0 q1 q2 q3 q4 hv1 hg2 hown2 hm hok
        go_wp2_with (at_builtin; go_must (refine wpList_append_own _ rfl (.tmp 25) (.tmp 29) 103 rfl (w.heap.size + 1) 3 j0 _ 1 8 Tryz.underlying103 gi gz0 gz1 gz2 rfl (by decide) _ _ _ rfl (hu2.alloc _) ⟨w2.heap.size, 0, none⟩ 1 1 [.int .i64 (cnt xs[k] xs : Nat)] rfl rfl ?c1 ?c2 ?c3 ?c4 ?c5 ?_))
        case c1 =>
          intro j u hj
          match j, hj with
          | 0, hj => simp at hj; subst hj; simp [Addr.add]
        case c2 => intro u hu; simp at hu; subst hu; rfl
        case c3 => unfold maxLen; omega
        case c4 => omega
        case c5 => simp; have := hm2.lt; omega
        intro u' w3 hown3 hg3 _
        have hubu : ∀ q, u6.ownBlock = some q → w.heap.size + 1 ≤ q ∧ ∃ c, w2.heap[q]? = some (.cells c 3 (0, 0)) := fun q hq => ⟨owns_row hu2 q hq, (owns_block hu2 q hq).2⟩
        have hv3 : w3.ownsRow (w.heap.size + 1) 47 5 v' (L.length + 1) (L.flatMap It.fc ++ It.fc xs[k]) := by
          refine owns_grown (HOW.out.alloc _) hg3 (fun q hq e => ?_)
          obtain ⟨c, hc⟩ := (owns_block HOW.out q hq).2
          obtain ⟨_, c', hc'⟩ := hubu q e.symm
          rw [hc] at hc'
          cases hc'
        have hm3 : MapIs w3 w.heap.size xs := (hm2.below ((Below.refl w2.heap.size w2).alloc (Nat.le_refl _) _) hm2.lt).of_block (hg3.block _ (by simp; have := hm2.lt; omega) (fun e => by have := (hubu _ e.symm).1; omega))
        have hb3 : Below w.heap.size w w3 := (hb2.alloc hbs2 _).grown hg3 (by simp; omega) (fun q hq => by have := (hubu q hq).1; omega)
        clear hlk hubu hg3
        go_wp2
        refine ⟨⟨k + 1, by omega, by go_num, by rw [H1.out, H2.out]; simpa using hv3, by rw [H1.out, H2.out]; simpa using hown3, hm3, hb3⟩, by simp [intOf]; omega⟩
      · rw [hh] at HT
        have H2 : Hid (L' = L) := HT.out
        clear HT
        go_wp2
        refine ⟨⟨k + 1, by omega, by go_num, by rw [H1.out, H2.out]; exact owns_below hv hb1w, by rw [H1.out, H2.out]; exact owns_below hu hb1w, hm.below hb1w hm.lt, hb.trans (hb1w.mono hb.size)⟩, by simp [intOf]; omega⟩
    · obtain rfl : k = xs.length := by omega
      rw [List.take_length] at hv hu
      have hlm := len_item hm
      obtain ⟨va, vc, hva, _, _⟩ := Reads.of_owns hv
      subst hva
      go_wp2
      go_ret2
      exact ⟨_, _, rfl, ownsRow_le hv (by omega), ownsRow_le hu (by omega), hb⟩
end Go.Proofs.YtfjdogpjckipbaaGreatDoor
