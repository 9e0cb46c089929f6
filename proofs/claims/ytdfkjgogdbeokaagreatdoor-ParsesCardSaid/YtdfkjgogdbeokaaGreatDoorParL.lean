/-
  DERIVED. flowlinelaw.parsed at any step; flowlinelaw.plays at a step of Parse; flowlinelaw.UpTo; flowlinelaw.Parses.
-/
import Derived.Test.YtdfkjgogdbeokaaGreatDoorParD
import Derived.Test.YtdfkjgogdbeokaaGreatDoorCdPP
import Derived.Test.YtdfkjgogdbeokaaGreatDoorRfParse
import Derived.Test.YtdfkjgogdbeokaaGreatDoorOpenD
import Derived.Test.YtdfkjgogdbeokaaGreatDoorKeptW
namespace Go.Proofs.YtdfkjgogdbeokaaGreatDoor
open Go.RowKit
set_option linter.unusedVariables false

/-- lined at any text, and so parsed at any step. -/
theorem parsed_any (a : Nat → Addr) (w : World) (kd oa ob : Int) (s t : ByteArray) (sl : Value) (hS : Sents a w) (hG : PatG w) :
    Calls Tryz.prog 8 #[.agg #[.int .i64 kd, .int .i64 oa, .int .i64 ob, .string s, .string t, sl]] w fun e w' => e = .returned (.bool true) ∧ Below w.heap.size w w' := by
  by_cases h : 120 < s.size
  · refine parsed_none w kd oa ob s t sl (lined_none _ s 2 0 (by decide) (pparse_long a (w.alloc (opO kd oa ob s t sl)) s (hS.alloc _) h) (fun w1 => (ref_long w1 s h).mono ?_))
    rintro e w' ⟨rfl, rfl⟩
    exact ⟨rfl, grown_refl _ _⟩
  · have h1 : s.size ≤ 120 := by omega
    have hp := pparse_short a (w.alloc (opO kd oa ob s t sl)) s (hS.alloc _) (hG.grown (grown_alloc w (opO kd oa ob s t sl) none) (by simp)) h1
    have hr := fun w1 => ref_short w1 s h1
    generalize pR s = R at *
    obtain ⟨bad, p, ns⟩ := R
    cases bad with
    | true =>
      refine parsed_none w kd oa ob s t sl (lined_none _ s 1 p (by decide) (hp.mono ?_) (fun w1 => (hr w1).mono ?_))
      · rintro e w1 ⟨g, ⟨_, rfl⟩ | ⟨e, _⟩ | ⟨e, _⟩⟩
        · exact ⟨rfl, g⟩
        · cases e
        · cases e
      · rintro e w' ⟨g, ⟨_, rfl⟩ | ⟨e, _⟩ | ⟨e, _⟩⟩
        · exact ⟨rfl, g⟩
        · cases e
        · cases e
    | false =>
      by_cases hl : 12 < ns.length
      · refine parsed_none w kd oa ob s t sl (lined_none _ s 3 0 (by decide) (hp.mono ?_) (fun w1 => (hr w1).mono ?_))
        · rintro e w1 ⟨g, ⟨e, _⟩ | ⟨_, _, rfl⟩ | ⟨_, e, _⟩⟩
          · cases e
          · exact ⟨rfl, g⟩
          · exact absurd (show ns.length ≤ 12 from e) (by omega)
        · rintro e w' ⟨g, ⟨e, _⟩ | ⟨_, _, rfl⟩ | ⟨_, e, _⟩⟩
          · cases e
          · exact ⟨rfl, g⟩
          · exact absurd (show ns.length ≤ 12 from e) (by omega)
      · refine parsed_ok w kd oa ob s t sl ns (by omega) (lined_ok _ s ns (hp.mono ?_) (fun w1 => (hr w1).mono ?_))
        · rintro e w1 ⟨g, ⟨e, _⟩ | ⟨_, e, _⟩ | ⟨_, _, j, v, r, rfl, _, hj, hrow, hlies, hn, hnum⟩⟩
          · cases e
          · exact absurd (show 12 < ns.length from e) hl
          · exact ⟨g, j, v, r, rfl, hj, hrow, Row.lies_law (fun _ _ _ => trivial) _ hlies, hn⟩
        · rintro e w' ⟨g, ⟨e, _⟩ | ⟨_, e, _⟩ | ⟨_, _, k, lv, nv, rfl, _, hk, hnv⟩⟩
          · cases e
          · exact absurd (show 12 < ns.length from e) hl
          · exact ⟨g, k, lv, nv, rfl, hk, hnv⟩

set_option maxRecDepth 100000 in
set_option maxHeartbeats 1000000 in
theorem plays1 (a0 : Nat → Addr) (w : World) (o : OpD) (ho : OpOk w o) (hS : Sents a0 w) (hG : PatG w) (h8 : o.kd = 1) :
    Calls Tryz.prog 6 #[o.v] w fun e w' => e = .returned (.bool true) ∧ Below w.heap.size w w' := by
  obtain ⟨kd, a, b, s, t, ia, ic, xs⟩ := o
  simp only at h8
  subst h8
  have hba : Below w.heap.size w (w.alloc (.cells #[.int .i64 1, .int .i64 a, .int .i64 b, .string s, .string t, .slice ia xs.length ic] 27)) := (Below.refl _ _).alloc (Nat.le_refl _) _
  have hra : Reads _ (.slice ia xs.length ic) 5 xs.length (xs.flatMap It.rc) := ho.rd.below hba
  have hlen : xs.length * 48 ≤ 140737488351232 := ho.len
  have HS : Hid (Sents a0 w) := hS
  have HG : Hid (PatG w) := hG
  clear hS hG
  unfold OpD.v
  go_enter Tryz.func6, Tryz.ntmps6
  go_wp2_with fail
  refine (kept_any _ xs ia ic hra hlen).mono ?_
  rintro e w1 ⟨v, rfl, hv, hb1⟩
  obtain ⟨a1, c1, h1, _⟩ := Reads.of_owns hv
  subst h1
  have r1 := Reads.of_owns hv
  obtain ⟨hc, hf⟩ := bcell' hb1
  have hz : w.heap.size < w1.heap.size := by have := hb1.size; simp at this; omega
  have c0 : w1.cell? ⟨w.heap.size, 0, none⟩ = some (.int .i64 1) := by rw [hc _ _ (by simp)]; simp [go_sem]
  have c1' : w1.cell? ⟨w.heap.size, 1, none⟩ = some (.int .i64 a) := by rw [hc _ _ (by simp)]; simp [go_sem]
  have c2 : w1.cell? ⟨w.heap.size, 2, none⟩ = some (.int .i64 b) := by rw [hc _ _ (by simp)]; simp [go_sem]
  have c3 : w1.cell? ⟨w.heap.size, 3, none⟩ = some (.string s) := by rw [hc _ _ (by simp)]; simp [go_sem]
  have c4 : w1.cell? ⟨w.heap.size, 4, none⟩ = some (.string t) := by rw [hc _ _ (by simp)]; simp [go_sem]
  have c5 : w1.cell? ⟨w.heap.size, 5, none⟩ = some (.slice ia xs.length ic) := by rw [hc _ _ (by simp)]; simp [go_sem]
  have f5 : w1.frozen? ⟨w.heap.size, 5, none⟩ = false := by rw [hf _ _ (by simp)]; simp [go_sem]
  have hbw : Below w.heap.size w (w1.setCell ⟨w.heap.size, 5, none⟩ (.slice a1 xs.length c1)) := (hba.trans (hb1.mono (by simp))).setCell (Nat.le_refl _) _
  clear hc hf hv r1
  go_wp2_with fail
  refine (parsed_any a0 _ 1 a b s t _ (HS.out.below hbw) (HG.out.grown (grown_of_below hbw) (by simp))).mono ?_
  rintro e w2 ⟨rfl, hb2⟩
  go_wp2
  try rw [Exit.noGoto_ret]
  go_ret
  exact ⟨rfl, hbw.trans (hb2.mono hbw.size)⟩

set_option maxRecDepth 100000 in
set_option maxHeartbeats 1000000 in
theorem upto_any (w : World) (ops : List OpD) (ap : Option Addr) (cap : Nat) (m : Int) (hr : Reads w (.slice ap ops.length cap) 6 ops.length (ops.flatMap OpD.cells)) (hlen : ops.length * 80 ≤ 140737488351232)
    (hp : ∀ o ∈ ops, o.kd = m → ∀ W : World, Below w.heap.size w W → Calls Tryz.prog 6 #[o.v] W fun e w' => e = .returned (.bool true) ∧ Below W.heap.size W w') :
    Calls Tryz.prog 5 #[.slice ap ops.length cap, .int .i64 m, .int .i64 m] w fun e w' => e = .returned (.int .i64 (-1)) ∧ Below w.heap.size w w' := by
  have HP : Hid (∀ o ∈ ops, o.kd = m → ∀ W : World, Below w.heap.size w W → Calls Tryz.prog 6 #[o.v] W fun e w' => e = .returned (.bool true) ∧ Below W.heap.size W w') := hp
  clear hp
  go_enter Tryz.func5, Tryz.ntmps5
  go_wp2
  go_loopw [7] (fun t wr => ∃ k : Nat, k ≤ ops.length ∧ t = .int .i64 k ∧ Below w.heap.size w wr) (fun t _ => ops.length - (intOf t).toNat)
  case atStart => exact ⟨0, Nat.zero_le _, rfl, Below.refl _ _⟩
  case round =>
    obtain ⟨k, hk, rfl, hb⟩ := hrel
    by_cases hlt : k < ops.length
    · obtain ⟨b, o, cap', hvv, hbl, hc⟩ := hr.elem (by omega) op_six k hlt
      cases hvv
      have HQ : Hid (ops[k].kd = m → ∀ W : World, Below w.heap.size w W → Calls Tryz.prog 6 #[ops[k].v] W fun e w' => e = .returned (.bool true) ∧ Below W.heap.size W w') := HP.out ops[k] (List.getElem_mem hlt)
      have hcr : ∀ j u, j < 6 → (OpD.cells ops[k])[j]? = some u → wr.cell? ⟨b, o + k * 6 + j, none⟩ = some u := fun j u hj hu => by rw [hb.cell (p := ⟨b, o + k * 6 + j, none⟩) hbl]; exact hc j u hj hu
      have s0 : wr.cell? ⟨b, o + k * 6, none⟩ = some (.int .i64 ops[k].kd) := hcr 0 _ (by omega) rfl
      have s1 := hcr 1 _ (by omega) rfl
      have s2 := hcr 2 _ (by omega) rfl
      have s3 := hcr 3 _ (by omega) rfl
      have s4 := hcr 4 _ (by omega) rfl
      have s5 := hcr 5 _ (by omega) rfl
      have hk60 : (k : Int) < 1152921504606846976 := by omega
      clear hc hcr
      by_cases hkd : ops[k].kd = m
      · have HQ' := HQ.out hkd
        have h1 : m ≤ ops[k].kd := by omega
        have h2 : ops[k].kd ≤ m := by omega
        have HC : Hid (∀ W : World, Below w.heap.size w W → Calls Tryz.prog 6 #[ops[k].v] W fun e w' => e = .returned (.bool true) ∧ Below W.heap.size W w') := HQ'
        have hba := hb.alloc hb.size (.cells #[.int .i64 ops[k].kd, .int .i64 ops[k].a, .int .i64 ops[k].b, .string ops[k].s, .string ops[k].t, .slice ops[k].ia ops[k].xs.length ops[k].ic] 27)
        clear HQ' hkd HQ
        go_wp2_with fail
        refine (HC.out _ hba).mono ?_
        rintro e w1 ⟨rfl, hb1⟩
        go_wp2
        exact ⟨⟨k + 1, by omega, by go_num, hba.trans (hb1.mono hba.size)⟩, by simp [intOf]; omega⟩
      · clear HQ
        by_cases hge : m ≤ ops[k].kd
        · have hle : ¬ ops[k].kd ≤ m := by omega
          go_wp2
          exact ⟨⟨k + 1, by omega, by go_num, hb.alloc hb.size _⟩, by simp [intOf]; omega⟩
        · go_wp2
          exact ⟨⟨k + 1, by omega, by go_num, hb.alloc hb.size _⟩, by simp [intOf]; omega⟩
    · obtain rfl : k = ops.length := by omega
      go_wp2
      go_ret
      exact ⟨rfl, hb⟩

theorem parses_any (a : Nat → Addr) (w : World) (hS : Sents a w) (hG : PatG w) (ops : List OpD) (ap : Option Addr) (cap : Nat) (hr : Reads w (.slice ap ops.length cap) 6 ops.length (ops.flatMap OpD.cells)) (hlen : ops.length * 80 ≤ 140737488351232) (ho : ∀ o ∈ ops, OpOk w o) :
    Calls Tryz.prog 3 #[.slice ap ops.length cap] w fun e w' => e = .returned (.bool true) ∧ Below w.heap.size w w' := by
  go_enter Tryz.func3, Tryz.ntmps3
  go_wp2_with fail
  refine (upto_any w ops ap cap 1 hr hlen (fun o hm h8 W hW => plays1 a W o ((ho o hm).below hW) (hS.below hW) (hG.grown (grown_of_below hW) (by simp)) h8)).mono ?_
  rintro e w1 ⟨rfl, hb1⟩
  go_wp2
  go_ret
  exact ⟨rfl, hb1⟩
end Go.Proofs.YtdfkjgogdbeokaaGreatDoor
