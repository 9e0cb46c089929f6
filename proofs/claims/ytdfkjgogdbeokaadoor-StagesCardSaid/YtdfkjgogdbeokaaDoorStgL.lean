/-
  DERIVED. flowlinelaw.staged at any step.
-/
import Derived.Test.YtdfkjgogdbeokaaDoorCdPP
import Derived.Test.YtdfkjgogdbeokaaDoorCdStages
import Derived.Test.YtdfkjgogdbeokaaDoorRfParse
import Derived.Test.YtdfkjgogdbeokaaDoorOpenD
namespace Go.Proofs.YtdfkjgogdbeokaaDoor
open Go.RowKit
set_option linter.unusedVariables false

def opO (kd oa ob : Int) (s t : ByteArray) (sl : Value) : Obj := .cells #[.int .i64 kd, .int .i64 oa, .int .i64 ob, .string s, .string t, sl] 27
set_option maxRecDepth 100000 in
set_option maxHeartbeats 2000000 in
theorem staged_none (w : World) (kd oa ob : Int) (s t : ByteArray) (sl : Value) (E x code pl : Int) (hE : E ≠ 0) (hc : code ≠ 0)
    (hP : Calls Tryd.prog 9 #[.string s] (w.alloc (opO kd oa ob s t sl)) fun e w1 => e = .returned (.tuple #[.pointer none, .agg #[.int .i64 E, .int .i64 x, .string ⟨#[]⟩]]) ∧ (w.alloc (opO kd oa ob s t sl)).grownBy w1 none)
    (hR : ∀ w1, Calls Tryd.prog 10 #[.string s] w1 fun e w' => e = .returned (.tuple #[.pointer none, .int .i64 code, .int .i64 pl]) ∧ w1.grownBy w' none) :
    Calls Tryd.prog 6 #[.agg #[.int .i64 kd, .int .i64 oa, .int .i64 ob, .string s, .string t, sl]] w fun e w' => e = .returned (.bool true) ∧ Below w.heap.size w w' := by
  have hEb : (E != 0) = true := by simpa using hE
  have hcb : (code != 0) = true := by simpa using hc
  go_enter Tryd.func6, Tryd.ntmps6
  go_wp2_with fail
  refine Calls.mono (show Calls _ _ _ (w.alloc (opO kd oa ob s t sl)) _ from hP) ?_
  rintro e w1 ⟨rfl, g1⟩
  have hz1 : w.heap.size < w1.heap.size := by have := g1.size; simp at this; omega
  have o1 : w1.heap[w.heap.size]? = some (opO kd oa ob s t sl) := by rw [g1.block _ (by simp) (by simp)]; exact heap_alloc_new _ _
  have o3 : (w1.alloc (.cells #[.int .i64 E, .int .i64 x, .string ⟨#[]⟩] 34)).cell? ⟨w.heap.size, 3, none⟩ = some (.string s) := by
    rw [World.cell?_alloc_lt _ _ ⟨w.heap.size, 3, none⟩ hz1]
    simp [World.cell?, o1, opO]
  have e1 : (w1.alloc (.cells #[.int .i64 E, .int .i64 x, .string ⟨#[]⟩] 34)).heap[w1.heap.size]? = some (.cells #[.int .i64 E, .int .i64 x, .string ⟨#[]⟩] 34 (0, 0)) := heap_alloc_new _ _
  have gw : w.grownBy (w1.alloc (.cells #[.int .i64 E, .int .i64 x, .string ⟨#[]⟩] 34)) none := ((grown_alloc w (opO kd oa ob s t sl) none).trans g1).trans (grown_alloc _ _ _)
  clear hP g1 o1
  go_wp2_with fail
  generalize w1.alloc (.cells #[.int .i64 E, .int .i64 x, .string ⟨#[]⟩] 34) = w2 at *
  refine (hR w2).mono ?_
  rintro e w3 ⟨rfl, g3⟩
  have e3 : w3.heap[w1.heap.size]? = some (.cells #[.int .i64 E, .int .i64 x, .string ⟨#[]⟩] 34 (0, 0)) := by rw [g3.block _ (lt_of_some e1) (by simp)]; exact e1
  have c0 : w3.cell? ⟨w1.heap.size, 0, none⟩ = some (.int .i64 E) := by simp [World.cell?, e3]
  have gw3 := gw.trans g3
  clear hR
  go_wp2
  go_ret
  exact ⟨rfl, below_of_grown gw3⟩

/-- Numbered from 0 on. -/
theorem numd_at {r : Row} (h : r.numd 0) (i : Nat) (hi : i < r.flat.length) : (r.flat.map (fun x => Value.int .i64 (x.2.1 : Nat)))[i]? = some (.int .i64 (i : Nat)) := by
  unfold Row.numd at h
  have h1 : (r.flat.map (·.2.1))[i]? = some i := by
    rw [h]
    simp [hi]
  rw [List.getElem?_map] at h1 ⊢
  rw [List.getElem?_eq_getElem hi] at h1 ⊢
  simp at h1 ⊢
  omega
theorem names_str (r : Row) : r.flat.map (fun x => Value.string x.1) = r.names.map Value.string := by simp [Row.names]

set_option maxRecDepth 100000 in
set_option maxHeartbeats 4000000 in
theorem staged_ok (w : World) (kd oa ob : Int) (s t : ByteArray) (sl : Value) (ns : List ByteArray) (hns : ns.length ≤ 12)
    (hP : Calls Tryd.prog 9 #[.string s] (w.alloc (opO kd oa ob s t sl)) fun e w1 => (w.alloc (opO kd oa ob s t sl)).grownBy w1 none ∧ ∃ j v, ∃ r : Row, e = .returned (.tuple #[.pointer (some ⟨j, 0, none⟩), .agg #[.int .i64 0, .int .i64 0, .string ⟨#[]⟩]]) ∧ w1.heap[j]? = some (.cells #[.string s, v] 82 (0, 0)) ∧
      RowAt w1 v r.vals ∧ r.lies w1 (fun _ => True) ∧ r.names = ns ∧ r.numd 0)
    (hR : ∀ w1, Calls Tryd.prog 10 #[.string s] w1 fun e w' => w1.grownBy w' none ∧ ∃ k lv nv, e = .returned (.tuple #[.pointer (some ⟨k, 0, none⟩), .int .i64 0, .int .i64 0]) ∧
      w'.heap[k]? = some (.cells #[.string s, lv, nv] 49 (0, 0)) ∧ w'.ownsRow (w1.heap.size + 1) 9 1 nv ns.length (ns.map Value.string)) :
    Calls Tryd.prog 6 #[.agg #[.int .i64 kd, .int .i64 oa, .int .i64 ob, .string s, .string t, sl]] w fun e w' => e = .returned (.bool true) ∧ Below w.heap.size w w' := by
  go_enter Tryd.func6, Tryd.ntmps6
  go_wp2_with fail
  refine Calls.mono (show Calls _ _ _ (w.alloc (opO kd oa ob s t sl)) _ from hP) ?_
  rintro e w1 ⟨g1, j, v, r, rfl, hj, hrow, hlies, hnm, hnd⟩
  have hz1 : w.heap.size < w1.heap.size := by have := g1.size; simp at this; omega
  have o1 : w1.heap[w.heap.size]? = some (opO kd oa ob s t sl) := by rw [g1.block _ (by simp) (by simp)]; exact heap_alloc_new _ _
  have o3 : (w1.alloc (.cells #[.int .i64 0, .int .i64 0, .string ⟨#[]⟩] 34)).cell? ⟨w.heap.size, 3, none⟩ = some (.string s) := by
    rw [World.cell?_alloc_lt _ _ ⟨w.heap.size, 3, none⟩ hz1]
    simp [World.cell?, o1, opO]
  have e1 : (w1.alloc (.cells #[.int .i64 0, .int .i64 0, .string ⟨#[]⟩] 34)).heap[w1.heap.size]? = some (.cells #[.int .i64 0, .int .i64 0, .string ⟨#[]⟩] 34 (0, 0)) := heap_alloc_new _ _
  have ga := grown_alloc w1 (.cells #[.int .i64 0, .int .i64 0, .string ⟨#[]⟩] 34) none
  have gw : w.grownBy (w1.alloc (.cells #[.int .i64 0, .int .i64 0, .string ⟨#[]⟩] 34)) none := ((grown_alloc w (opO kd oa ob s t sl) none).trans g1).trans ga
  clear hP g1 o1
  go_wp2_with fail
  generalize w1.alloc (.cells #[.int .i64 0, .int .i64 0, .string ⟨#[]⟩] 34) = w2 at *
  refine (hR w2).mono ?_
  rintro e w3 ⟨g3, k, lv, nv, rfl, hk, hnv⟩
  have e3 : w3.heap[w1.heap.size]? = some (.cells #[.int .i64 0, .int .i64 0, .string ⟨#[]⟩] 34 (0, 0)) := by rw [g3.block _ (lt_of_some e1) (by simp)]; exact e1
  have c0 : w3.cell? ⟨w1.heap.size, 0, none⟩ = some (.int .i64 0) := by simp [World.cell?, e3]
  have gw3 := gw.trans g3
  have g13 := ga.trans g3
  have hj3 : w3.heap[j]? = some (.cells #[.string s, v] 82 (0, 0)) := by rw [g13.block _ (lt_of_some hj) (by simp)]; exact hj
  have hrow3 := rowAt_kept hrow g13 (Or.inl rfl)
  have hlies3 := Row.lies_kept g13 (fun _ e => by cases e) _ hlies
  have hfl : r.flat.length = ns.length := by rw [← hnm]; simp [Row.names]
  have PS := pstages_any w3 j s v r (fun _ => True) hj3 hrow3 hlies3 (by omega)
  have hstr : r.flat.map (fun x => Value.string x.1) = ns.map Value.string := by rw [names_str, hnm]
  have hat := numd_at hnd
  rw [hstr, hfl] at PS
  rw [hfl] at hat
  generalize r.flat.map (fun x => Value.int .i64 (x.2.1 : Nat)) = ats at *
  have HAT : Hid (∀ i, i < ns.length → ats[i]? = some (.int .i64 (i : Nat))) := hat
  clear hR hat hstr hrow3 hlies3 hrow hlies hnm hnd hj hj3 ga g3 gw e1 o3
  go_wp2_with fail
  refine PS.mono ?_
  rintro e w4 ⟨nv4, av4, B, rfl, hB, own4, oat4, g4⟩
  obtain ⟨an, cn, rfl⟩ := row_form1 own4
  obtain ⟨aa, ca, rfl⟩ := row_form1 oat4
  obtain ⟨am, cm, rfl⟩ := row_form1 hnv
  have gw4 := gw3.trans g4
  have hk4 : w4.heap[k]? = some (.cells #[.string s, lv, .slice am ns.length cm] 49 (0, 0)) := by rw [g4.block _ (lt_of_some hk) (by simp)]; exact hk
  have m2 : w4.cell? ⟨k, 2, none⟩ = some (.slice am ns.length cm) := by simp [World.cell?, hk4]
  have hnv4 := own_kept hnv g4
  have NS := named_same w4 ns an am cn cm (Reads.of_owns own4) (Reads.of_owns hnv4) (by omega)
  clear PS hk hk4 hnv g4 gw3 e3 g13
  go_wp2_with fail
  refine NS.mono ?_
  rintro e w5 ⟨rfl, hb5⟩
  have gw5 : w.grownBy w5 none := gw4.trans (grown_of_below hb5)
  have oat5 := own_kept oat4 (grown_of_below hb5)
  have hcell : Hid (∀ i, i < ns.length → ∃ g, aa = some ⟨g, 0, none⟩ ∧ w5.cell? ⟨g, i, none⟩ = some (.int .i64 (i : Nat))) := by
    show ∀ i, i < ns.length → _
    intro i hi
    obtain ⟨g, cap, e, _, _⟩ := oat5.form (by omega)
    cases e
    exact ⟨g, rfl, row_cell oat5 (HAT.out i hi)⟩
  clear NS oat4 own4 hnv4 HAT hb5 gw4 oat5
  go_wp2
  go_loopw [11] (fun t11 wr => ∃ i n : Nat, t11 = .int .i64 (i : Nat) ∧ i ≤ ns.length ∧ wr = w5.drewN n) (fun t _ => ns.length - (intOf t).toNat)
  case atStart => exact ⟨0, 0, rfl, by omega, rfl⟩
  case round =>
    obtain ⟨i, n, rfl, hi, rfl⟩ := hrel
    by_cases hlt : i < ns.length
    · have hii : (i : Int) < (ns.length : Int) := by omega
      obtain ⟨g, rfl, hc⟩ := hcell.out i hlt
      go_wp2
      exact ⟨⟨i + 1, _, by simp, by omega, rfl⟩, by simp [intOf]; omega⟩
    · have hii : ¬ ((i : Int) < (ns.length : Int)) := by omega
      go_wp2
      go_ret
      exact ⟨rfl, below_of_grown (gw5.trans (grown_drewN _ _ _))⟩

/-- staged, at any step. -/
theorem staged_any (a : Nat → Addr) (w : World) (kd oa ob : Int) (s t : ByteArray) (sl : Value) (hS : Sents a w) (hG : PatG w) :
    Calls Tryd.prog 6 #[.agg #[.int .i64 kd, .int .i64 oa, .int .i64 ob, .string s, .string t, sl]] w fun e w' => e = .returned (.bool true) ∧ Below w.heap.size w w' := by
  by_cases h : 120 < s.size
  · refine staged_none w kd oa ob s t sl 2 0 2 0 (by decide) (by decide) (pparse_long a (w.alloc (opO kd oa ob s t sl)) s (hS.alloc _) h) (fun w1 => (ref_long w1 s h).mono ?_)
    rintro e w' ⟨rfl, rfl⟩
    exact ⟨rfl, grown_refl _ _⟩
  · have h1 : s.size ≤ 120 := by omega
    have hp := pparse_short a (w.alloc (opO kd oa ob s t sl)) s (hS.alloc _) (hG.grown (grown_alloc w (opO kd oa ob s t sl) none) (by simp)) h1
    have hr := fun w1 => ref_short w1 s h1
    generalize pR s = R at *
    obtain ⟨bad, p, ns⟩ := R
    cases bad with
    | true =>
      refine staged_none w kd oa ob s t sl 1 p 1 p (by decide) (by decide) (hp.mono ?_) (fun w1 => (hr w1).mono ?_)
      · rintro e w1 ⟨g, ⟨_, rfl⟩ | ⟨e, _⟩ | ⟨e, _⟩⟩
        · exact ⟨rfl, g⟩
        · cases e
        · cases e
      · rintro e w' ⟨g, ⟨_, rfl⟩ | ⟨e, _⟩ | ⟨e, _⟩⟩
        · exact ⟨rfl, g⟩
        · cases e
        · cases e
    | false =>
      by_cases hl : 12 < ns.length
      · refine staged_none w kd oa ob s t sl 3 0 3 0 (by decide) (by decide) (hp.mono ?_) (fun w1 => (hr w1).mono ?_)
        · rintro e w1 ⟨g, ⟨e, _⟩ | ⟨_, _, rfl⟩ | ⟨_, e, _⟩⟩
          · cases e
          · exact ⟨rfl, g⟩
          · exact absurd (show ns.length ≤ 12 from e) (by omega)
        · rintro e w' ⟨g, ⟨e, _⟩ | ⟨_, _, rfl⟩ | ⟨_, e, _⟩⟩
          · cases e
          · exact ⟨rfl, g⟩
          · exact absurd (show ns.length ≤ 12 from e) (by omega)
      · refine staged_ok w kd oa ob s t sl ns (by omega) (hp.mono ?_) (fun w1 => (hr w1).mono ?_)
        · rintro e w1 ⟨g, ⟨e, _⟩ | ⟨_, e, _⟩ | ⟨_, _, j, v, r, rfl, _, hj, hrow, hlies, hn, hnum⟩⟩
          · cases e
          · exact absurd (show 12 < ns.length from e) hl
          · exact ⟨g, j, v, r, rfl, hj, hrow, Row.lies_law (fun _ _ _ => trivial) _ hlies, hn, hnum⟩
        · rintro e w' ⟨g, ⟨e, _⟩ | ⟨_, e, _⟩ | ⟨_, _, k, lv, nv, rfl, _, hk, hnv⟩⟩
          · cases e
          · exact absurd (show 12 < ns.length from e) hl
          · exact ⟨g, k, lv, nv, rfl, hk, hnv⟩
end Go.Proofs.YtdfkjgogdbeokaaDoor
namespace Go.Proofs.YtdfkjgogdbeokaaDoor
open Go.RowKit
set_option linter.unusedVariables false

set_option maxRecDepth 100000 in
set_option maxHeartbeats 2000000 in
theorem stages_any (a : Nat → Addr) (w : World) (hS : Sents a w) (hG : PatG w) (ops : List OpD) (ap : Option Addr) (cap : Nat) (hr : Reads w (.slice ap ops.length cap) 6 ops.length (ops.flatMap OpD.cells)) (hlen : ops.length * 80 ≤ 140737488351232) :
    Calls Tryd.prog 4 #[.slice ap ops.length cap] w fun e w' => e = .returned (.bool true) ∧ Below w.heap.size w w' := by
  have HS : Hid (Sents a w) := hS
  have HG : Hid (PatG w) := hG
  clear hS hG
  go_enter Tryd.func4, Tryd.ntmps4
  go_wp2
  go_loopw [3] (fun t wr => ∃ k : Nat, k ≤ ops.length ∧ t = .int .i64 k ∧ Below w.heap.size w wr) (fun t _ => ops.length - (intOf t).toNat)
  case atStart => exact ⟨0, Nat.zero_le _, rfl, Below.refl _ _⟩
  case round =>
    obtain ⟨k, hk, rfl, hb⟩ := hrel
    by_cases hlt : k < ops.length
    · obtain ⟨b, o, cap', hvv, hbl, hc⟩ := hr.elem (by omega) op_six k hlt
      cases hvv
      have hcr : ∀ j u, j < 6 → (OpD.cells ops[k])[j]? = some u → wr.cell? ⟨b, o + k * 6 + j, none⟩ = some u := fun j u hj hu => by rw [hb.cell (p := ⟨b, o + k * 6 + j, none⟩) hbl]; exact hc j u hj hu
      have s0 : wr.cell? ⟨b, o + k * 6, none⟩ = some (.int .i64 ops[k].kd) := hcr 0 _ (by omega) rfl
      have s1 := hcr 1 _ (by omega) rfl
      have s2 := hcr 2 _ (by omega) rfl
      have s3 := hcr 3 _ (by omega) rfl
      have s4 := hcr 4 _ (by omega) rfl
      have s5 := hcr 5 _ (by omega) rfl
      have hk60 : (k : Int) < 1152921504606846976 := by omega
      clear hc hcr
      go_wp2_with fail
      refine (staged_any a wr ops[k].kd ops[k].a ops[k].b ops[k].s ops[k].t _ (HS.out.below hb) (HG.out.grown (grown_of_below hb) (by simp))).mono ?_
      rintro e w1 ⟨rfl, hb1⟩
      go_wp2
      exact ⟨⟨k + 1, by omega, by go_num, hb.trans (hb1.mono hb.size)⟩, by simp [intOf]; omega⟩
    · obtain rfl : k = ops.length := by omega
      go_wp2
      go_ret
      exact ⟨rfl, hb⟩
end Go.Proofs.YtdfkjgogdbeokaaDoor
