/-
  DERIVED. The reference's stage: both.
-/
import Derived.Test.YtdfkjgogdbeokaaGreatDoorRfSt
import Derived.Deep.RegionLaw
import Derived.Deep.DrawnRows
namespace Go.Proofs.YtdfkjgogdbeokaaGreatDoor
open Go.RowKit
set_option linter.unusedVariables false
attribute [local go_sem ↓] Go.wp_at_zero Go.wp_at_succ
/-- both. -/
def bothS (s : ByteArray) (L : UInt8 → Bool × Nat × List ByteArray → Bool × Nat × List ByteArray) (R : Bool × Nat × List ByteArray) : Bool × Nat × List ByteArray :=
  let r1 := L 59 R
  let e1 := eatS s 59 (r1.1, r1.2.1)
  let r2 := L 41 (e1.1, e1.2, r1.2.2)
  let e2 := eatS s 41 (r2.1, r2.2.1)
  (e2.1, e2.2, r2.2.2)

set_option maxRecDepth 100000 in
set_option maxHeartbeats 4000000 in
theorem stg_both (w : World) (b : Nat) (s : ByteArray) (p q : Nat) (nv : Value) (ns : List ByteArray) (h : Rd w b s p false nv) (hn : Nm w b nv ns) (hp : p ≤ s.size) (hs : s.size ≤ 120) (hnl : ns.length ≤ p)
    (hat : hdAt s p p = (true, q)) (hex : s.extract p q = ⟨#[98, 111, 116, 104, 40]⟩) (L : UInt8 → Bool × Nat × List ByteArray → Bool × Nat × List ByteArray)
    (hL : ∀ (c : UInt8) (ci : Int) (w' : World) (nv' : Value) (R : Bool × Nat × List ByteArray), ((c.toNat : Nat) : Int) = ci → c ≠ 0 → q ≤ R.2.1 → R.2.1 ≤ s.size → R.2.2.length ≤ R.2.1 → Rd w' b s R.2.1 R.1 nv' → Nm w' b nv' R.2.2 → Calls Tryz.prog 44 #[.pointer (some ⟨b, 0, none⟩), .int .u8 ci] w' fun e w'' => (∃ a n k, e = .returned (.slice a n k)) ∧ RdPost w' b s nv' (L c R) w'')
    (hLn : ∀ (c : UInt8) (R : Bool × Nat × List ByteArray), R.2.1 ≤ s.size → R.2.2.length ≤ R.2.1 → R.2.1 ≤ (L c R).2.1 ∧ (L c R).2.1 ≤ s.size ∧ (L c R).2.2.length ≤ (L c R).2.1) :
    Calls Tryz.prog 71 #[.pointer (some ⟨b, 0, none⟩)] w fun e w' => StgV e ∧ RdPost w b s nv (bothS s L (false, q, ns ++ [⟨#[98, 111, 116, 104]⟩])) w' := by
  obtain ⟨i0, hi, hz0, hz1, hz2⟩ := info_parts Tryz.infoSt
  obtain ⟨ao, cap, rfl⟩ := hn.form
  have h1 : Rd (w.alloc (.cells #[.string ⟨#[]⟩, .int .i64 0, .int .i64 0, .string ⟨#[]⟩, .slice none 0 0, .slice none 0 0] 116)) b s p false _ := h.of_block (Below.heap_alloc _ _ _ h.lt)
  have hn1 : Nm (w.alloc (.cells #[.string ⟨#[]⟩, .int .i64 0, .int .i64 0, .string ⟨#[]⟩, .slice none 0 0, .slice none 0 0] 116)) b _ ns := World.ownsRow.alloc hn _
  go_enter Tryz.func71, Tryz.ntmps71
  go_wp2_with fail
  refine (head_any _ b s p _ h1 hp hs).mono ?_
  rw [hat]
  rintro e w2 ⟨hr, -, hrd, hq1, hq2, hgr⟩
  obtain ⟨rfl, hhit⟩ := hr rfl
  replace hrd : Rd w2 b s q false (.slice ao ns.length cap) := hrd
  simp only [hex]
  obtain ⟨c0, c1, c2, c3, f1, f2, f3⟩ := hrd.cells
  have hn2 := hn1.kept hgr
  have hfar := hn2.far
  have hbw2 := hrd.lt
  go_wp2
  have exq : (ByteArray.mk #[98, 111, 116, 104, 40]).extract 0 4 = ⟨#[98, 111, 116, 104]⟩ := by rfl
  simp only [exq]
  generalize hW4 : w2.alloc (.cells #[.string ⟨#[98, 111, 116, 104]⟩, .int .i64 ns.length, .int .i64 0, .string ⟨#[]⟩, .slice none 0 0, .slice none 0 0] 116) = w4
  have hrd4 : Rd w4 b s q false (.slice ao ns.length cap) := by rw [← hW4]; exact hrd.of_block (Below.heap_alloc _ _ _ hbw2)
  have hn4 : Nm w4 b (.slice ao ns.length cap) ns := by rw [← hW4]; exact World.ownsRow.alloc hn2 _
  have hs4 : w4.heap.size = w2.heap.size + 1 := by rw [← hW4]; simp
  have hx4 : w4.heap[w2.heap.size]? = some (.cells #[.string ⟨#[98, 111, 116, 104]⟩, .int .i64 ns.length, .int .i64 0, .string ⟨#[]⟩, .slice none 0 0, .slice none 0 0] 116 (0, 0)) := by rw [← hW4]; exact heap_alloc_new _ _
  have HW4 : Hid (w2.alloc (.cells #[.string ⟨#[98, 111, 116, 104]⟩, .int .i64 ns.length, .int .i64 0, .string ⟨#[]⟩, .slice none 0 0, .slice none 0 0] 116) = w4) := hW4
  clear hW4 c0 c1 c2 c3 f1 f2 f3
  obtain ⟨c0, c1, c2, c3, f1, f2, f3⟩ := hrd4.cells
  have x0 : w4.cell? ⟨w2.heap.size, 0, none⟩ = some (.string ⟨#[98, 111, 116, 104]⟩) := by simp [World.cell?, hx4]
  have hbw4 : b < w4.heap.size := hrd4.lt
  go_region_law
    ((refine step_append_lies _ (by rfl) (.tmp 52) (.tmp 55) 47 (by rfl) (b + 1) 9 i0 _ 1 16 Tryz.underlying47 hi hz0 hz1 hz2 (by rfl) (by decide) (.slice ao ns.length cap) ns.length (ns.map Value.string) (by rfl) (World.ownsRow.alloc hn4 _) ⟨w2.heap.size + 1, 0, none⟩ 1 1 [.string ⟨#[98, 111, 116, 104]⟩] (by rfl) (by rfl) (by rw [← hs4]; exact World.news_of_block (heap_alloc_new _ _)) (by simp [Value.oneCell']) (by omega) (by unfold maxLen; omega) (by omega) (by simp; omega) (w2.heap.size + 2) (by simp; omega) ?_; intro g cap' w5 hown5 hgrow5 hat5 hlt5; have r5 := rd_app hrd4 hgrow5 (Below.heap_alloc _ _ _ hbw4) hfar; obtain ⟨d0, d1, d2, d3, k1, k2, k3⟩ := r5.cells))
  all_goals obtain ⟨r6, n6, x6, y6, kp6, hs6, hg1, hg2⟩ := stg_app hn h.lt hgr HW4.out hrd4 hgrow5 ⟨rfl, rfl, rfl, by simp, fun k hk _ => Below.heap_alloc _ _ _ hk⟩ hown5 hat5
  all_goals clear hgrow5 hown5 hat5 r5 d0 d1 d2 d3 k1 k2 k3 c0 c1 c2 c3 f1 f2 f3 x0 hx4 hn4 hrd4 hs4 HW4 hn2 hrd hlt5 hbw4
  all_goals have hbl := h.lt
  all_goals generalize (w5.setCell ⟨b, 3, none⟩ (.slice (some ⟨g, 0, none⟩) (ns.length + 1) cap')) = w6 at *
  all_goals have S6 : St w w6 b w2.heap.size s _ _ (false, q, ns ++ [⟨#[98, 111, 116, 104]⟩]) _ := ⟨r6, n6, kp6, x6, y6, hs6, hbl, by simpa [Value.ownBlock] using hg2, by simpa [Value.ownBlock] using hg1⟩
  all_goals clear r6 n6 kp6 x6 y6
  all_goals have hq4 := ext_size hex hq2
  all_goals simp only [ByteArray.size, List.size_toArray, List.length_cons, List.length_nil] at hq4
  all_goals generalize (Value.slice (some ⟨g, 0, none⟩) (ns.length + 1) cap') = nv6 at *
  all_goals have za0 : w6.cell? ⟨w2.heap.size, 0, none⟩ = some (.string ⟨#[98, 111, 116, 104]⟩) := (S6.cell 0).1.trans (by rfl)
  all_goals have fa0 := (S6.cell 0).2
  all_goals go_wp2_with fail
  all_goals refine (hL 59 59 w6 _ (false, q, ns ++ [⟨#[98, 111, 116, 104]⟩]) rfl (by decide) (by simp only; omega) (by simp only; omega) (by simp only [List.length_append, List.length_cons, List.length_nil] at *; omega) S6.rd S6.nm).mono ?_
  all_goals rintro e w7 ⟨⟨la, ln, lc, rfl⟩, hp7⟩
  all_goals obtain ⟨nv7, S7⟩ := S6.line hp7
  all_goals have hLL := hLn 59 (false, q, ns ++ [⟨#[98, 111, 116, 104]⟩]) (by simp only; omega) (by simp only [List.length_append, List.length_cons, List.length_nil] at *; omega)
  all_goals generalize hRR : L 59 (false, q, ns ++ [⟨#[98, 111, 116, 104]⟩]) = R1 at *
  all_goals have S8 := S7.put 4 (.slice la ln lc)
  all_goals clear za0 fa0
  all_goals have zc0 : w7.cell? ⟨w2.heap.size, 0, none⟩ = some (.string ⟨#[98, 111, 116, 104]⟩) := (S7.cell 0).1.trans (by rfl)
  all_goals have fc0 := (S7.cell 0).2
  all_goals have zc4 : w7.cell? ⟨w2.heap.size, 4, none⟩ = some (.slice none 0 0) := (S7.cell 4).1.trans (by rfl)
  all_goals have fc4 := (S7.cell 4).2
  all_goals go_wp2_with fail
  all_goals refine (eat_any _ b s _ _ _ 59 59 rfl S8.rd (by have := hLL.2.1; omega)).mono ?_
  all_goals rintro e w9 ⟨rfl, r9, g9⟩
  all_goals have S9 := S8.eat _ r9 g9
  all_goals have hE := eatS_le s 59 (R1.1, R1.2.1) hLL.2.1
  all_goals generalize hEE : eatS s 59 (R1.1, R1.2.1) = E1 at *
  all_goals clear zc0 fc0 zc4 fc4
  all_goals go_wp2_with fail
  all_goals refine (hL 41 41 w9 _ (E1.1, E1.2, R1.2.2) rfl (by decide) (by simp only at *; omega) (by simp only at *; omega) (by simp only at *; omega) S9.rd S9.nm).mono ?_
  all_goals rintro e w10 ⟨⟨ma, mn, mc, rfl⟩, hp10⟩
  all_goals obtain ⟨nv10, S10⟩ := S9.line hp10
  all_goals have hL2 := hLn 41 (E1.1, E1.2, R1.2.2) (by simp only at *; omega) (by simp only at *; omega)
  all_goals generalize hR2 : L 41 (E1.1, E1.2, R1.2.2) = R2 at *
  all_goals have S11 := S10.put 5 (.slice ma mn mc)
  all_goals have ze5 : w10.cell? ⟨w2.heap.size, 5, none⟩ = some (.slice none 0 0) := (S10.cell 5).1.trans (by rfl)
  all_goals have fe5 := (S10.cell 5).2
  all_goals go_wp2_with fail
  all_goals refine (eat_any _ b s _ _ _ 41 41 rfl S11.rd (by have := hL2.2.1; omega)).mono ?_
  all_goals rintro e w12 ⟨rfl, r12, g12⟩
  all_goals have S12 := S11.eat _ r12 g12
  all_goals clear ze5 fe5
  all_goals have zd0 : w12.cell? ⟨w2.heap.size, 0, none⟩ = some (.string ⟨#[98, 111, 116, 104]⟩) := (S12.cell 0).1.trans (by rfl)
  all_goals have fd0 := (S12.cell 0).2
  all_goals have zd1 : w12.cell? ⟨w2.heap.size, 1, none⟩ = some (.int .i64 ns.length) := (S12.cell 1).1.trans (by rfl)
  all_goals have fd1 := (S12.cell 1).2
  all_goals have zd2 : w12.cell? ⟨w2.heap.size, 2, none⟩ = some (.int .i64 0) := (S12.cell 2).1.trans (by rfl)
  all_goals have fd2 := (S12.cell 2).2
  all_goals have zd3 : w12.cell? ⟨w2.heap.size, 3, none⟩ = some (.string ⟨#[]⟩) := (S12.cell 3).1.trans (by rfl)
  all_goals have fd3 := (S12.cell 3).2
  all_goals have zd4 : w12.cell? ⟨w2.heap.size, 4, none⟩ = some (.slice la ln lc) := (S12.cell 4).1.trans (by rfl)
  all_goals have fd4 := (S12.cell 4).2
  all_goals have zd5 : w12.cell? ⟨w2.heap.size, 5, none⟩ = some (.slice ma mn mc) := (S12.cell 5).1.trans (by rfl)
  all_goals have fd5 := (S12.cell 5).2
  all_goals obtain ⟨⟨v0, v1, v2, v3, v4, v5⟩, ⟨u0, u1, u2, u3, u4, u5⟩⟩ := S12.rcells
  all_goals go_wp2
  all_goals have hPP : bothS s L (false, q, ns ++ [⟨#[98, 111, 116, 104]⟩]) = ((eatS s 41 (R2.1, R2.2.1)).1, (eatS s 41 (R2.1, R2.2.1)).2, R2.2.2) := by unfold bothS; simp only [hEE, hRR, hR2]
  all_goals have E := S12.ends (.string ⟨#[98, 111, 116, 104]⟩) (.int .i64 ns.length) (.int .i64 0) (.string ⟨#[]⟩) (.slice la ln lc) (.slice ma mn mc)
  all_goals rw [← hPP] at E
  all_goals exact bodyPost_ret (results_cell_row rfl _ _ w.heap.size 116 _ (0, 0) _ rfl E.1 Tryz.underlying116 rfl Tryz.sizeRS) rfl ⟨⟨_, _, _, _, _, _, _, _, _, _, rfl⟩, E.2⟩
end Go.Proofs.YtdfkjgogdbeokaaGreatDoor
