/-
  DERIVED. appendAll: all stages by their numbers.
-/
import Derived.Test.YtdfkjgogdbeokaaGreatDoorCdRow
import Derived.Test.YtdfkjgogdbeokaaGreatDoorCdNamed
import Derived.Deep.RegionHeld3
namespace Go.Proofs.YtdfkjgogdbeokaaGreatDoor
open Go.RowKit
set_option linter.unusedVariables false

/-- What a growing list leaves as it was. -/
structure Gk (w w' : World) (v v' : Value) : Prop where
  os : w'.os = w.os
  tape : w'.tape = w.tape
  output : w'.output = w.output
  size : w.heap.size ≤ w'.heap.size
  block : ∀ k, k < w.heap.size → v.ownBlock ≠ some k → w'.heap[k]? = w.heap[k]?
  own : v'.ownBlock = v.ownBlock ∨ ∃ g, v'.ownBlock = some g ∧ w.heap.size ≤ g
theorem Gk.refl (w : World) (v : Value) : Gk w w v v := ⟨rfl, rfl, rfl, Nat.le_refl _, fun _ _ _ => rfl, Or.inl rfl⟩
theorem Gk.apart {w w' : World} {v v' : Value} (h : Gk w w' v v') {k : Nat} (hk : k < w.heap.size) (hv : v.ownBlock ≠ some k) : v'.ownBlock ≠ some k := by
  rcases h.own with e | ⟨g, e, hg⟩
  · rw [e]; exact hv
  · rw [e]; intro e2; cases e2; omega
theorem Gk.trans {w w1 w2 : World} {v v1 v2 : Value} (h : Gk w w1 v v1) (k : Gk w1 w2 v1 v2) : Gk w w2 v v2 := by
  refine ⟨k.os.trans h.os, k.tape.trans h.tape, k.output.trans h.output, Nat.le_trans h.size k.size, fun i hi hn => ?_, ?_⟩
  · exact (k.block i (Nat.lt_of_lt_of_le hi h.size) (h.apart hi hn)).trans (h.block i hi hn)
  · rcases k.own with e | ⟨g, e, hg⟩
    · rw [e]; exact h.own
    · exact Or.inr ⟨g, e, Nat.le_trans h.size hg⟩
/-- Behind an append. -/
theorem Gk.app {w w2 : World} {v : Value} {O : Obj} {g n cap : Nat} (hg : (w.alloc O).grownBy w2 v.ownBlock) (hat : v.ownBlock = some g ∨ g = w.heap.size + 1) : Gk w w2 v (.slice (some ⟨g, 0, none⟩) n cap) := by
  have hz : (w.alloc O).heap.size = w.heap.size + 1 := by simp
  refine ⟨hg.os, hg.tape, hg.output, by have := hg.size; omega, fun k hk hv => ?_, ?_⟩
  · rw [hg.block k (by omega) (Ne.symm hv)]; exact Below.heap_alloc _ _ _ hk
  · rcases hat with e | e
    · exact Or.inl e.symm
    · exact Or.inr ⟨g, rfl, by omega⟩
theorem Row.lies_gk {w w' : World} {v v' : Value} {A : Nat → Prop} (h : Gk w w' v v') (hA : ∀ k, A k → v.ownBlock ≠ some k) : ∀ r : Row, r.lies w A → r.lies w' A := by
  have blk : ∀ k o, A k → w.heap[k]? = some o → w'.heap[k]? = some o := fun k o ha ho => by
    rw [h.block k (lt_of_some ho) (hA k ha)]; exact ho
  have row : ∀ u vs, RowAt w u vs → (∀ g, u.ownBlock = some g → A g) → RowAt w' u vs := fun u vs hu ha => by
    refine ⟨hu.1, ?_⟩
    rcases hu.2 with hz | ⟨g, cap, cur, rfl, hb, hg, rest⟩
    · exact .inl hz
    · exact .inr ⟨g, cap, cur, rfl, hb, blk g _ (ha g rfl) hg, rest⟩
  intro r
  induction r with
  | nil => intro _; trivial
  | one t k nm i r ih => rintro ⟨⟨h1, h2, x, tt, h3⟩, h4⟩; exact ⟨⟨h1, h2, x, tt, blk _ _ h1 h3⟩, ih h4⟩
  | two k nm i v1 v2 a b r ia ib ih => rintro ⟨⟨h1, h2⟩, ⟨h3, h4⟩, ⟨h5, h6⟩, h7, h8, h9⟩; exact ⟨⟨h1, blk _ _ h1 h2⟩, ⟨row _ _ h3 h4, h4⟩, ⟨row _ _ h5 h6, h6⟩, ia h7, ib h8, ih h9⟩
  | par k nm i v1 a r ia ih => rintro ⟨⟨h1, x, h2⟩, ⟨h3, h4⟩, h7, h9⟩; exact ⟨⟨h1, x, blk _ _ h1 h2⟩, ⟨row _ _ h3 h4, h4⟩, ia h7, ih h9⟩
theorem rowAt_gk {w w' : World} {v v' u : Value} {vs : List Value} (h : Gk w w' v v') (hu : RowAt w u vs) (hne : ∀ g, u.ownBlock = some g → v.ownBlock ≠ some g) : RowAt w' u vs := by
  refine ⟨hu.1, ?_⟩
  rcases hu.2 with hz | ⟨g, cap, cur, rfl, hb, hg, rest⟩
  · exact .inl hz
  · exact .inr ⟨g, cap, cur, rfl, hb, by rw [h.block g (lt_of_some hg) (hne g rfl)]; exact hg, rest⟩

def AllPost (w : World) (base : Nat) (v : Value) (ys : List Value) (e : Ending) (w' : World) : Prop :=
  ∃ v', e = .returned v' ∧ w'.ownsRow base 94 1 v' ys.length ys ∧ Gk w w' v v'
/-- appendAll does its work with rows of fewer than N stages. -/
def AllOk (N : Nat) : Prop := ∀ (r : Row), r.flat.length < N → ∀ (w : World) (base : Nat) (A : Nat → Prop) (v u : Value) (xs : List Value), w.ownsRow base 94 1 v xs.length xs → RowAt w u r.vals → (∀ g, u.ownBlock = some g → v.ownBlock ≠ some g) → r.lies w A → (∀ k, A k → v.ownBlock ≠ some k) → base ≤ w.heap.size → xs.length + r.flat.length ≤ 1000 →
  Calls Tryz.prog 65 #[v, u] w fun e w' => AllPost w base v (xs ++ r.flat.map (·.2.2)) e w'
theorem Row.vals_flat (r : Row) : r.vals.length ≤ r.flat.length := by
  induction r with
  | nil => simp [Row.vals, Row.flat]
  | one t k nm i r ih => simp [Row.vals, Row.flat]; omega
  | two k nm i v1 v2 a b r _ _ ih => simp [Row.vals, Row.flat]; omega
  | par k nm i v1 a r _ ih => simp [Row.vals, Row.flat]; omega
theorem vals_nil {r : Row} (h : r.vals = []) : r = .nil := by
  cases r with
  | nil => rfl
  | one t k nm i r => simp [Row.vals] at h
  | two k nm i v1 v2 a b r => simp [Row.vals] at h
  | par k nm i v1 a r => simp [Row.vals] at h
theorem drop_head {l t : List Value} {j : Nat} {x : Value} (h : x :: t = l.drop j) : l[j]? = some x := by
  have : (l.drop j)[0]? = some x := by rw [← h]; rfl
  simpa using this
theorem drop_tail {l t : List Value} {j : Nat} {x : Value} (h : x :: t = l.drop j) : t = l.drop (j + 1) := by
  have : (l.drop j).drop 1 = t := by rw [← h]; rfl
  rw [← this, List.drop_drop]
theorem drewQ (w : World) : w.grownBy w.drew none := ⟨rfl, rfl, rfl, Nat.le_refl _, fun _ _ _ => rfl⟩
theorem gk_cell {w w' : World} {v v' : Value} {k i : Nat} {x : Value} (h : Gk w w' v v') (hc : w.cell? ⟨k, i, none⟩ = some x) (hne : v.ownBlock ≠ some k) : w'.cell? ⟨k, i, none⟩ = some x := by
  have hl : k < w.heap.size := by
    rcases Nat.lt_or_ge k w.heap.size with h1 | h1
    · exact h1
    · simp [World.cell?, Array.getElem?_eq_none h1] at hc
  rw [World.cell?_of_block (a := ⟨k, i, none⟩) (h.block k hl hne)]
  exact hc
theorem gk_drew {w w' : World} {v v' : Value} (h : Gk w.drew w' v v') : Gk w w' v v' := ⟨h.os, h.tape, h.output, h.size, h.block, h.own⟩
/-- What the loop of appendAll holds. -/
structure AllRel (N : Nat) (w wr : World) (base : Nat) (A : Nat → Prop) (v u : Value) (r : Row) (ys : List Value) (t : Value) (j : Nat) (r2 : Row) (xs2 : List Value) : Prop where
  le : j ≤ r.vals.length
  dr : r2.vals = r.vals.drop j
  own : wr.ownsRow base 94 1 t xs2.length xs2
  tot : xs2 ++ r2.flat.map (·.2.2) = ys
  cnt : r2.flat.length < N + 1
  lies : r2.lies wr (fun k => A k ∧ k < w.heap.size)
  gk : Gk w wr v t
theorem Tryz.noBothS (v : Value) (w : World) : (Instr.typeAssert (.iface 217 v) 94 159 true).run Tryz.prog w = .ok (.tuple #[.pointer none, .bool false]) w := by kernel_rfl
theorem Tryz.noBothF (v : Value) (w : World) : (Instr.typeAssert (.iface 237 v) 94 159 true).run Tryz.prog w = .ok (.tuple #[.pointer none, .bool false]) w := by kernel_rfl
theorem Tryz.noBothP (v : Value) (w : World) : (Instr.typeAssert (.iface 164 v) 94 159 true).run Tryz.prog w = .ok (.tuple #[.pointer none, .bool false]) w := by kernel_rfl
theorem Tryz.noParS (v : Value) (w : World) : (Instr.typeAssert (.iface 217 v) 94 164 true).run Tryz.prog w = .ok (.tuple #[.pointer none, .bool false]) w := by kernel_rfl
theorem Tryz.noParF (v : Value) (w : World) : (Instr.typeAssert (.iface 237 v) 94 164 true).run Tryz.prog w = .ok (.tuple #[.pointer none, .bool false]) w := by kernel_rfl
theorem Tryz.isBoth (v : Value) (w : World) : (Instr.typeAssert (.iface 159 v) 94 159 true).run Tryz.prog w = .ok (.tuple #[v, .bool true]) w := by kernel_rfl
theorem Tryz.isPar (v : Value) (w : World) : (Instr.typeAssert (.iface 164 v) 94 164 true).run Tryz.prog w = .ok (.tuple #[v, .bool true]) w := by kernel_rfl
theorem Tryz.infoPg : (Tryz.prog.info? 94).map (fun i => (i.zero, i.size, i.bytes)) = some (some .nilIface, 1, 16) := by kernel_rfl

set_option maxRecDepth 100000 in
set_option maxHeartbeats 4000000 in
theorem all_step (N : Nat) (ih : AllOk N) : AllOk (N + 1) := by
  intro r hr w base A v u xs hv hu huv hl hA hbase hlen
  have IH : Hid (AllOk N) := ih
  clear ih
  obtain ⟨i1, hi, hz0, hz1, hz2⟩ := info_parts Tryz.infoPg
  have b1 := Tryz.noBothS
  have b2 := Tryz.noBothF
  have b3 := Tryz.noBothP
  have b4 := Tryz.noParS
  have b5 := Tryz.noParF
  have b6 := Tryz.isBoth
  have b7 := Tryz.isPar
  generalize hYS : xs ++ r.flat.map (·.2.2) = ys
  have hyl : ys.length ≤ 1000 := by rw [← hYS]; simp; omega
  have hl' := Row.lies_law (B := fun k => A k ∧ k < w.heap.size) (fun k ha hk => ⟨ha, hk⟩) _ hl
  have hA' : ∀ k, (A k ∧ k < w.heap.size) → v.ownBlock ≠ some k := fun k h => hA k h.1
  obtain ⟨ao, cap, rfl⟩ := row_form1 hu
  have hs0 : AllRel N w w base A v (.slice ao r.vals.length cap) r ys v 0 r xs := ⟨by omega, rfl, hv, hYS, hr, hl', Gk.refl _ _⟩
  obtain ⟨ao2, cap2, rfl⟩ := row_form1 hv
  have hrl : r.vals.length ≤ r.flat.length := Row.vals_flat r
  clear hYS hl hA hl' hv
  go_enter Tryz.func65, Tryz.ntmps65
  go_wp2
  go_loopw [0, 11] (fun t0 t11 wr => ∃ j r2 xs2, t11 = .int .i64 (j : Nat) ∧ AllRel N w wr base A (.slice ao2 xs.length cap2) (.slice ao r.vals.length cap) r ys t0 j r2 xs2) (fun _ t _ => r.vals.length - (intOf t).toNat)
  case atStart => exact ⟨0, r, xs, rfl, hs0⟩
  case round =>
    obtain ⟨j, r2, xs2, rfl, rel⟩ := hrel
    obtain ⟨jl, dr, own, tot, cnt, lies, gk⟩ := rel
    obtain ⟨ao3, cap3, rfl⟩ := row_form1 own
    clear hs0
    have hur : RowAt wr (.slice ao r.vals.length cap) r.vals := rowAt_gk gk hu huv
    have hsz := gk.size
    have hxl : xs2.length + r2.flat.length = ys.length := by rw [← tot]; simp
    by_cases hlt : j < r.vals.length
    · have hji : (j : Int) < (r.vals.length : Int) := by omega
      obtain ⟨gu, capu, e, _, _⟩ := World.ownsRow.form hur (by omega)
      cases e
      cases r2 with
      | nil =>
        have := congrArg List.length dr
        simp [Row.vals] at this
        omega
      | one t k nm i rest =>
        have hvj : r.vals[j]? = some (stV t k) := drop_head dr
        have hcj := row_cell hur hvj
        unfold stV at hcj
        obtain ⟨⟨hA1, ht, x, tt, hb1⟩, hl1⟩ := lies
        have hd1 := drop_tail dr
        clear dr hvj
        simp only [Row.flat, List.length_cons] at hxl cnt
        have hAk : ∀ k, (A k ∧ k < w.heap.size) → (Value.slice ao3 xs2.length cap3).ownBlock ≠ some k := fun k h => gk.apart h.2 (hA' k h)
        have ht2 : t = 217 ∨ t = 237 := by rcases ht with h | h | h <;> first | exact Or.inl h | exact Or.inr h
        rcases ht2 with rfl | rfl
        · go_wp2_with (at_builtin; go_must (refine wpList_append_lies _ rfl (.tmp 15) (.tmp 17) 89 rfl base 94 i1 _ 1 16 Tryz.underlying89 hi hz0 hz1 hz2 rfl (by decide) (.slice ao3 xs2.length cap3) xs2.length xs2 rfl (World.ownsRow.alloc own _) ⟨wr.heap.size, 0, none⟩ 1 1 [.iface 217 (.pointer (some ⟨k, 0, none⟩))] rfl rfl ?d1 ?d2 (by omega) ?d3 ?d4 ?d5 (wr.heap.size + 1) ?d6 ?_))
          case d2 => rfl
          case d3 => unfold maxLen; omega
          case d4 => omega
          case d5 => omega
          intro g cap' w3 hown3 hgrow3 hat3 hlt3
          have gk3 : Gk wr w3 (.slice ao3 xs2.length cap3) (.slice (some ⟨g, 0, none⟩) (xs2.length + 1) cap') := Gk.app hgrow3 hat3
          clear hgrow3 hat3
          have hl3 := Row.lies_gk gk3 hAk _ hl1
          have tot3 : (xs2 ++ [Value.iface 217 (.pointer (some ⟨k, 0, none⟩))]) ++ rest.flat.map (·.2.2) = ys := by rw [← tot]; simp [Row.flat, stV]
          have own3 : w3.ownsRow base 94 1 (.slice (some ⟨g, 0, none⟩) (xs2.length + 1) cap') (xs2 ++ [Value.iface 217 (.pointer (some ⟨k, 0, none⟩))]).length (xs2 ++ [Value.iface 217 (.pointer (some ⟨k, 0, none⟩))]) := by simpa using hown3
          have rel3 : AllRel N w w3 base A (.slice ao2 xs.length cap2) (.slice (some ⟨gu, 0, none⟩) r.vals.length cap) r ys (.slice (some ⟨g, 0, none⟩) (xs2.length + 1) cap') (j + 1) rest (xs2 ++ [Value.iface 217 (.pointer (some ⟨k, 0, none⟩))]) := ⟨by omega, hd1, own3, tot3, by omega, hl3, gk.trans gk3⟩
          clear tot3 own3 hl3 hown3 tot
          go_wp2
          exact ⟨⟨j + 1, rest, _, by simp, rel3⟩, by simp [intOf]; omega⟩
        · go_wp2_with (at_builtin; go_must (refine wpList_append_lies _ rfl (.tmp 15) (.tmp 17) 89 rfl base 94 i1 _ 1 16 Tryz.underlying89 hi hz0 hz1 hz2 rfl (by decide) (.slice ao3 xs2.length cap3) xs2.length xs2 rfl (World.ownsRow.alloc own _) ⟨wr.heap.size, 0, none⟩ 1 1 [.iface 237 (.pointer (some ⟨k, 0, none⟩))] rfl rfl ?e1 ?e2 (by omega) ?e3 ?e4 ?e5 (wr.heap.size + 1) ?e6 ?_))
          case e2 => rfl
          case e3 => unfold maxLen; omega
          case e4 => omega
          case e5 => omega
          intro g cap' w3 hown3 hgrow3 hat3 hlt3
          have gk3 : Gk wr w3 (.slice ao3 xs2.length cap3) (.slice (some ⟨g, 0, none⟩) (xs2.length + 1) cap') := Gk.app hgrow3 hat3
          clear hgrow3 hat3
          have hl3 := Row.lies_gk gk3 hAk _ hl1
          have tot3 : (xs2 ++ [Value.iface 237 (.pointer (some ⟨k, 0, none⟩))]) ++ rest.flat.map (·.2.2) = ys := by rw [← tot]; simp [Row.flat, stV]
          have own3 : w3.ownsRow base 94 1 (.slice (some ⟨g, 0, none⟩) (xs2.length + 1) cap') (xs2 ++ [Value.iface 237 (.pointer (some ⟨k, 0, none⟩))]).length (xs2 ++ [Value.iface 237 (.pointer (some ⟨k, 0, none⟩))]) := by simpa using hown3
          have rel3 : AllRel N w w3 base A (.slice ao2 xs.length cap2) (.slice (some ⟨gu, 0, none⟩) r.vals.length cap) r ys (.slice (some ⟨g, 0, none⟩) (xs2.length + 1) cap') (j + 1) rest (xs2 ++ [Value.iface 237 (.pointer (some ⟨k, 0, none⟩))]) := ⟨by omega, hd1, own3, tot3, by omega, hl3, gk.trans gk3⟩
          clear tot3 own3 hl3 hown3 tot
          go_wp2
          exact ⟨⟨j + 1, rest, _, by simp, rel3⟩, by simp [intOf]; omega⟩
      | two k nm i v1 v2 a b rest =>
        have hvj : r.vals[j]? = some (stV 159 k) := drop_head dr
        have hcj := row_cell hur hvj
        unfold stV at hcj
        obtain ⟨⟨hA1, hb1⟩, ⟨hv1, hw1⟩, ⟨hv2, hw2⟩, hla, hlb, hl1⟩ := lies
        have hd1 := drop_tail dr
        clear dr hvj
        simp only [Row.flat, List.length_cons, List.length_append] at hxl cnt
        have hAk : ∀ k, (A k ∧ k < w.heap.size) → (Value.slice ao3 xs2.length cap3).ownBlock ≠ some k := fun k h => gk.apart h.2 (hA' k h)
        go_wp2_with (at_builtin; go_must (refine wpList_append_lies _ rfl (.tmp 15) (.tmp 17) 89 rfl base 94 i1 _ 1 16 Tryz.underlying89 hi hz0 hz1 hz2 rfl (by decide) (.slice ao3 xs2.length cap3) xs2.length xs2 rfl (World.ownsRow.alloc own _) ⟨wr.heap.size, 0, none⟩ 1 1 [.iface 159 (.pointer (some ⟨k, 0, none⟩))] rfl rfl ?f1 ?f2 (by omega) ?f3 ?f4 ?f5 (wr.heap.size + 1) ?f6 ?_))
        case f2 => rfl
        case f3 => unfold maxLen; omega
        case f4 => omega
        case f5 => omega
        intro g cap' w3 hown3 hgrow3 hat3 hlt3
        have gk3 : Gk wr w3 (.slice ao3 xs2.length cap3) (.slice (some ⟨g, 0, none⟩) (xs2.length + 1) cap') := Gk.app hgrow3 hat3
        clear hgrow3 hat3
        have hAk3 : ∀ k, (A k ∧ k < w.heap.size) → (Value.slice (some ⟨g, 0, none⟩) (xs2.length + 1) cap').ownBlock ≠ some k := fun k h => (gk.trans gk3).apart h.2 (hA' k h)
        have hl3 := Row.lies_gk gk3 hAk _ hl1
        have hla3 := Row.lies_gk gk3 hAk _ hla
        have hlb3 := Row.lies_gk gk3 hAk _ hlb
        have hv13 := rowAt_gk gk3 hv1 (fun g e => hAk g (hw1 g e))
        have hv23 := rowAt_gk gk3 hv2 (fun g e => hAk g (hw2 g e))
        have hb3 : w3.heap[k]? = _ := (gk3.block k (lt_of_some hb1) (hAk k hA1)).trans hb1
        have own3 : w3.ownsRow base 94 1 (.slice (some ⟨g, 0, none⟩) (xs2.length + 1) cap') (xs2 ++ [Value.iface 159 (.pointer (some ⟨k, 0, none⟩))]).length (xs2 ++ [Value.iface 159 (.pointer (some ⟨k, 0, none⟩))]) := by simpa using hown3
        have hs3 := gk3.size
        have hla4 := Row.lies_kept (drewQ w3) (fun _ e => by cases e) _ hla3
        have hlb4 := Row.lies_kept (drewQ w3) (fun _ e => by cases e) _ hlb3
        have k2 : w3.cell? ⟨k, 2, none⟩ = some v1 := by simp [World.cell?, hb3]
        have k3 : w3.cell? ⟨k, 3, none⟩ = some v2 := by simp [World.cell?, hb3]
        obtain ⟨ao1, cap1, rfl⟩ := row_form1 hv1
        obtain ⟨ao4, cap4, rfl⟩ := row_form1 hv2
        have TOT : (xs2 ++ [Value.iface 159 (.pointer (some ⟨k, 0, none⟩))]) ++ a.flat.map (·.2.2) ++ b.flat.map (·.2.2) ++ rest.flat.map (·.2.2) = ys := by rw [← tot]; simp [Row.flat, stV]
        have C1 : Hid (Calls Tryz.prog 65 #[.slice (some ⟨g, 0, none⟩) (xs2.length + 1) cap', .slice ao1 a.vals.length cap1] w3.drew fun e w' => ∃ v4, e = .returned v4 ∧ (w'.cell? ⟨k, 2, none⟩ = some (.slice ao1 a.vals.length cap1) ∧ w'.cell? ⟨k, 3, none⟩ = some (.slice ao4 b.vals.length cap4)) ∧ Hid (w'.ownsRow base 94 1 v4 ((xs2 ++ [Value.iface 159 (.pointer (some ⟨k, 0, none⟩))]) ++ a.flat.map (·.2.2)).length ((xs2 ++ [Value.iface 159 (.pointer (some ⟨k, 0, none⟩))]) ++ a.flat.map (·.2.2)) ∧ Gk w3 w' (.slice (some ⟨g, 0, none⟩) (xs2.length + 1) cap') v4)) := by
          refine (IH.out a (by omega) w3.drew base (fun k => A k ∧ k < w.heap.size) (.slice (some ⟨g, 0, none⟩) (xs2.length + 1) cap') (.slice ao1 a.vals.length cap1) (xs2 ++ [Value.iface 159 (.pointer (some ⟨k, 0, none⟩))]) own3 hv13 (fun g e => hAk3 g (hw1 g e)) hla4 hAk3 (by have : w3.drew.heap.size = w3.heap.size := rfl; omega) (by simp; omega)).mono ?_
          rintro e w4 ⟨v4, rfl, own4, gk4⟩
          exact ⟨v4, rfl, ⟨gk_cell gk4 k2 (hAk3 k hA1), gk_cell gk4 k3 (hAk3 k hA1)⟩, own4, gk_drew gk4⟩
        have C2 : Hid (∀ w4 v4, Hid (w4.ownsRow base 94 1 v4 ((xs2 ++ [Value.iface 159 (.pointer (some ⟨k, 0, none⟩))]) ++ a.flat.map (·.2.2)).length ((xs2 ++ [Value.iface 159 (.pointer (some ⟨k, 0, none⟩))]) ++ a.flat.map (·.2.2)) ∧ Gk w3 w4 (.slice (some ⟨g, 0, none⟩) (xs2.length + 1) cap') v4) →
            Calls Tryz.prog 65 #[v4, .slice ao4 b.vals.length cap4] w4 fun e w' => ∃ v5, e = .returned v5 ∧ (w'.cell? ⟨k, 2, none⟩ = some (.slice ao1 a.vals.length cap1) ∧ w'.cell? ⟨k, 3, none⟩ = some (.slice ao4 b.vals.length cap4)) ∧ Hid (∃ xs5, w'.ownsRow base 94 1 v5 xs5.length xs5 ∧ xs5 ++ rest.flat.map (·.2.2) = ys ∧ rest.lies w' (fun k => A k ∧ k < w.heap.size) ∧ Gk w3 w' (.slice (some ⟨g, 0, none⟩) (xs2.length + 1) cap') v5)) := by
          show ∀ w4 v4, _ → _
          rintro w4 v4 ⟨own4, gk4⟩
          have hAk4 : ∀ k, (A k ∧ k < w.heap.size) → v4.ownBlock ≠ some k := fun k h => (gk.trans (gk3.trans gk4)).apart h.2 (hA' k h)
          refine (IH.out b (by omega) w4 base (fun k => A k ∧ k < w.heap.size) v4 (.slice ao4 b.vals.length cap4) _ own4 (rowAt_gk gk4 hv23 (fun g e => hAk3 g (hw2 g e))) (fun g e => hAk4 g (hw2 g e)) (Row.lies_gk gk4 hAk3 _ hlb3) hAk4 (Nat.le_trans (by omega : base ≤ w3.heap.size) gk4.size) (by simp; omega)).mono ?_
          rintro e w5 ⟨v5, rfl, own5, gk5⟩
          exact ⟨v5, rfl, ⟨gk_cell gk5 (gk_cell gk4 k2 (hAk3 k hA1)) (hAk4 k hA1), gk_cell gk5 (gk_cell gk4 k3 (hAk3 k hA1)) (hAk4 k hA1)⟩, _, own5, TOT, Row.lies_gk gk5 hAk4 _ (Row.lies_gk gk4 hAk3 _ hl3), gk4.trans gk5⟩
        have GK : Hid (Gk w w3 (.slice ao2 xs.length cap2) (.slice (some ⟨g, 0, none⟩) (xs2.length + 1) cap')) := gk.trans gk3
        have HD : Hid (rest.vals = r.vals.drop (j + 1)) := hd1
        clear hd1 TOT hla4 hlb4 hb3 hv13 hv23 hla3 hlb3 hl3 hAk3 hAk own3 hown3 tot gk gk3 hA1 hb1 hv1 hw1 hv2 hw2 hla hlb hl1 hur hcj own hA' IH hu huv
        go_wp2
        go_region_held3 (fun w' => w'.cell? ⟨k, 2, none⟩ = some (.slice ao1 a.vals.length cap1) ∧ w'.cell? ⟨k, 3, none⟩ = some (.slice ao4 b.vals.length cap4)) (go_keep)
          (first
            | (go_at_call 65; with_reducible refine C1.out.mono ?_; rintro e w4 ⟨v4, rfl, ⟨k24, k34⟩, M4⟩)
            | (go_at_call 65; with_reducible refine (C2.out _ _ M4).mono ?_; rintro e w5 ⟨v5, rfl, ⟨k25, k35⟩, M5⟩))
        obtain ⟨xs5, own5, tot5, lies5, gk5⟩ := M5.out
        have rel5 : AllRel N w w5 base A (.slice ao2 xs.length cap2) (.slice (some ⟨gu, 0, none⟩) r.vals.length cap) r ys v5 (j + 1) rest xs5 := ⟨by omega, HD.out, own5, tot5, by omega, lies5, GK.out.trans gk5⟩
        clear M5 own5 tot5 lies5 gk5 C1 GK HD
        go_wp2
        exact ⟨⟨j + 1, rest, xs5, by simp, rel5⟩, by simp [intOf]; omega⟩
      | par k nm i v1 a rest =>
        have hvj : r.vals[j]? = some (stV 164 k) := drop_head dr
        have hcj := row_cell hur hvj
        unfold stV at hcj
        obtain ⟨⟨hA1, hx1, hb1⟩, ⟨hv1, hw1⟩, hla, hl1⟩ := lies
        have hd1 := drop_tail dr
        clear dr hvj
        simp only [Row.flat, List.length_cons, List.length_append] at hxl cnt
        have hAk : ∀ k, (A k ∧ k < w.heap.size) → (Value.slice ao3 xs2.length cap3).ownBlock ≠ some k := fun k h => gk.apart h.2 (hA' k h)
        go_wp2_with (at_builtin; go_must (refine wpList_append_lies _ rfl (.tmp 15) (.tmp 17) 89 rfl base 94 i1 _ 1 16 Tryz.underlying89 hi hz0 hz1 hz2 rfl (by decide) (.slice ao3 xs2.length cap3) xs2.length xs2 rfl (World.ownsRow.alloc own _) ⟨wr.heap.size, 0, none⟩ 1 1 [.iface 164 (.pointer (some ⟨k, 0, none⟩))] rfl rfl ?g1 ?g2 (by omega) ?g3 ?g4 ?g5 (wr.heap.size + 1) ?g6 ?_))
        case g2 => rfl
        case g3 => unfold maxLen; omega
        case g4 => omega
        case g5 => omega
        intro g cap' w3 hown3 hgrow3 hat3 hlt3
        have gk3 : Gk wr w3 (.slice ao3 xs2.length cap3) (.slice (some ⟨g, 0, none⟩) (xs2.length + 1) cap') := Gk.app hgrow3 hat3
        clear hgrow3 hat3
        have hAk3 : ∀ k, (A k ∧ k < w.heap.size) → (Value.slice (some ⟨g, 0, none⟩) (xs2.length + 1) cap').ownBlock ≠ some k := fun k h => (gk.trans gk3).apart h.2 (hA' k h)
        have hl3 := Row.lies_gk gk3 hAk _ hl1
        have hla3 := Row.lies_gk gk3 hAk _ hla
        have hv13 := rowAt_gk gk3 hv1 (fun g e => hAk g (hw1 g e))
        have hb3 : w3.heap[k]? = _ := (gk3.block k (lt_of_some hb1) (hAk k hA1)).trans hb1
        have own3 : w3.ownsRow base 94 1 (.slice (some ⟨g, 0, none⟩) (xs2.length + 1) cap') (xs2 ++ [Value.iface 164 (.pointer (some ⟨k, 0, none⟩))]).length (xs2 ++ [Value.iface 164 (.pointer (some ⟨k, 0, none⟩))]) := by simpa using hown3
        have hs3 := gk3.size
        have hla4 := Row.lies_kept (drewQ w3) (fun _ e => by cases e) _ hla3
        have k3 : w3.cell? ⟨k, 3, none⟩ = some v1 := by simp [World.cell?, hb3]
        obtain ⟨ao1, cap1, rfl⟩ := row_form1 hv1
        have TOT : (xs2 ++ [Value.iface 164 (.pointer (some ⟨k, 0, none⟩))]) ++ a.flat.map (·.2.2) ++ rest.flat.map (·.2.2) = ys := by rw [← tot]; simp [Row.flat, stV]
        have C1 : Hid (∀ w3', w3' = w3.drew ∨ w3' = w3 → Calls Tryz.prog 65 #[.slice (some ⟨g, 0, none⟩) (xs2.length + 1) cap', .slice ao1 a.vals.length cap1] w3' fun e w' => ∃ v5, e = .returned v5 ∧ w'.cell? ⟨k, 3, none⟩ = some (.slice ao1 a.vals.length cap1) ∧ Hid (∃ xs5, w'.ownsRow base 94 1 v5 xs5.length xs5 ∧ xs5 ++ rest.flat.map (·.2.2) = ys ∧ rest.lies w' (fun k => A k ∧ k < w.heap.size) ∧ Gk w3 w' (.slice (some ⟨g, 0, none⟩) (xs2.length + 1) cap') v5)) := by
          show ∀ w3', _ → _
          rintro w3' hw
          rcases hw with rfl | rfl
          · refine (IH.out a (by omega) w3.drew base (fun k => A k ∧ k < w.heap.size) (.slice (some ⟨g, 0, none⟩) (xs2.length + 1) cap') (.slice ao1 a.vals.length cap1) (xs2 ++ [Value.iface 164 (.pointer (some ⟨k, 0, none⟩))]) own3 hv13 (fun g e => hAk3 g (hw1 g e)) hla4 hAk3 (by have : w3.drew.heap.size = w3.heap.size := rfl; omega) (by simp; omega)).mono ?_
            rintro e w4 ⟨v4, rfl, own4, gk4⟩
            exact ⟨v4, rfl, gk_cell gk4 k3 (hAk3 k hA1), _, own4, TOT, Row.lies_gk (gk_drew gk4) hAk3 _ hl3, gk_drew gk4⟩
          · refine (IH.out a (by omega) w3' base (fun k => A k ∧ k < w.heap.size) (.slice (some ⟨g, 0, none⟩) (xs2.length + 1) cap') (.slice ao1 a.vals.length cap1) (xs2 ++ [Value.iface 164 (.pointer (some ⟨k, 0, none⟩))]) own3 hv13 (fun g e => hAk3 g (hw1 g e)) hla3 hAk3 (by omega) (by simp; omega)).mono ?_
            rintro e w4 ⟨v4, rfl, own4, gk4⟩
            exact ⟨v4, rfl, gk_cell gk4 k3 (hAk3 k hA1), _, own4, TOT, Row.lies_gk gk4 hAk3 _ hl3, gk4⟩
        have GK : Hid (Gk w w3 (.slice ao2 xs.length cap2) (.slice (some ⟨g, 0, none⟩) (xs2.length + 1) cap')) := gk.trans gk3
        have HD : Hid (rest.vals = r.vals.drop (j + 1)) := hd1
        clear hd1 TOT hla4 hb3 hv13 hla3 hl3 hAk3 hAk own3 hown3 tot gk gk3 hA1 hb1 hv1 hw1 hla hl1 hur hcj own hA' IH hu huv
        go_wp2_with fail
        refine (C1.out w3 (Or.inr rfl)).mono ?_
        rintro e w5 ⟨v5, rfl, k35, M5⟩
        obtain ⟨xs5, own5, tot5, lies5, gk5⟩ := M5.out
        have rel5 : AllRel N w w5 base A (.slice ao2 xs.length cap2) (.slice (some ⟨gu, 0, none⟩) r.vals.length cap) r ys v5 (j + 1) rest xs5 := ⟨by omega, HD.out, own5, tot5, by omega, lies5, GK.out.trans gk5⟩
        clear M5 own5 tot5 lies5 gk5 C1 GK HD
        go_wp2
        exact ⟨⟨j + 1, rest, xs5, by simp, rel5⟩, by simp [intOf]; omega⟩
    · have hj2 : j = r.vals.length := by omega
      have hjd : ¬ ((j : Int) < (r.vals.length : Int)) := by omega
      have hr2 : r2 = .nil := by
        have := congrArg List.length dr
        rw [List.length_drop] at this
        exact vals_nil (List.eq_nil_of_length_eq_zero (by omega))
      subst hr2
      have hys : xs2 = ys := by rw [← tot]; simp [Row.flat]
      subst hys
      clear hxl
      go_wp2
      go_ret
      exact ⟨_, rfl, own, gk⟩

/-- appendAll, whatever the row. -/
theorem all_any : ∀ N, AllOk N := by
  intro N
  induction N with
  | succ N ih => exact all_step N ih
  | zero => intro r hr; exact absurd hr (by omega)
end Go.Proofs.YtdfkjgogdbeokaaGreatDoor
