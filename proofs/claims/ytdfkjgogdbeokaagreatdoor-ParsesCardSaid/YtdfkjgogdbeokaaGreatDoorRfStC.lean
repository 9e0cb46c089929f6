/-
  DERIVED. The reference's stages: folds.
-/
import Derived.Test.YtdfkjgogdbeokaaGreatDoorRfBnd
import Derived.Deep.RegionLaw
import Derived.Deep.DrawnRows
namespace Go.Proofs.YtdfkjgogdbeokaaGreatDoor
open Go.RowKit
set_option linter.unusedVariables false
attribute [local go_sem ↓] Go.wp_at_zero Go.wp_at_succ

set_option maxRecDepth 100000 in
set_option maxHeartbeats 4000000 in
theorem stg_fold_max (w : World) (b : Nat) (s : ByteArray) (p q : Nat) (nv : Value) (ns : List ByteArray) (h : Rd w b s p false nv) (hn : Nm w b nv ns) (hp : p ≤ s.size) (hs : s.size ≤ 120) (hnl : ns.length ≤ p)
    (hat : hdAt s p p = (true, q)) (hex : s.extract p q = ⟨#[102, 111, 108, 100, 32, 109, 97, 120]⟩) :
    Calls Tryz.prog 71 #[.pointer (some ⟨b, 0, none⟩)] w fun e w' => StgV e ∧ RdPost w b s nv (false, q, ns ++ [⟨#[102, 111, 108, 100]⟩]) w' := by
  obtain ⟨i0, hi, hz0, hz1, hz2⟩ := info_parts Tryz.infoSt
  obtain ⟨ao, cap, rfl⟩ := hn.form
  have h1 : Rd (w.alloc (.cells #[.string ⟨#[]⟩, .int .i64 0, .int .i64 0, .string ⟨#[]⟩, .slice none 0 0, .slice none 0 0] 116)) b s p false _ := h.of_block (Below.heap_alloc _ _ _ h.lt)
  have hn1 : Nm (w.alloc (.cells #[.string ⟨#[]⟩, .int .i64 0, .int .i64 0, .string ⟨#[]⟩, .slice none 0 0, .slice none 0 0] 116)) b _ ns := World.ownsRow.alloc hn _
  go_enter Tryz.func71, Tryz.ntmps71
  go_wp2_with fail
  refine (head_any _ b s p _ h1 hp hs).mono ?_
  rw [hat]
  rintro e w2 ⟨hr, -, hrd, hq1, hq2, hgr⟩
  obtain ⟨rfl, hhit⟩ := hr rfl
  replace hrd : Rd w2 b s q false (.slice ao ns.length cap) := hrd
  simp only [hex]
  obtain ⟨c0, c1, c2, c3, f1, f2, f3⟩ := hrd.cells
  have hn2 := hn1.kept hgr
  have hfar := hn2.far
  have hbw2 := hrd.lt
  go_wp2
  have exq : (ByteArray.mk #[102, 111, 108, 100, 32, 109, 97, 120]).extract 5 8 = ⟨#[109, 97, 120]⟩ := by rfl
  simp only [exq]
  generalize hW4 : w2.alloc (.cells #[.string ⟨#[102, 111, 108, 100]⟩, .int .i64 ns.length, .int .i64 0, .string ⟨#[109, 97, 120]⟩, .slice none 0 0, .slice none 0 0] 116) = w4
  have hrd4 : Rd w4 b s q false (.slice ao ns.length cap) := by rw [← hW4]; exact hrd.of_block (Below.heap_alloc _ _ _ hbw2)
  have hn4 : Nm w4 b (.slice ao ns.length cap) ns := by rw [← hW4]; exact World.ownsRow.alloc hn2 _
  have hs4 : w4.heap.size = w2.heap.size + 1 := by rw [← hW4]; simp
  have hx4 : w4.heap[w2.heap.size]? = some (.cells #[.string ⟨#[102, 111, 108, 100]⟩, .int .i64 ns.length, .int .i64 0, .string ⟨#[109, 97, 120]⟩, .slice none 0 0, .slice none 0 0] 116 (0, 0)) := by rw [← hW4]; exact heap_alloc_new _ _
  have HW4 : Hid (w2.alloc (.cells #[.string ⟨#[102, 111, 108, 100]⟩, .int .i64 ns.length, .int .i64 0, .string ⟨#[109, 97, 120]⟩, .slice none 0 0, .slice none 0 0] 116) = w4) := hW4
  clear hW4 c0 c1 c2 c3 f1 f2 f3
  obtain ⟨c0, c1, c2, c3, f1, f2, f3⟩ := hrd4.cells
  have x0 : w4.cell? ⟨w2.heap.size, 0, none⟩ = some (.string ⟨#[102, 111, 108, 100]⟩) := by simp [World.cell?, hx4]
  have hbw4 : b < w4.heap.size := hrd4.lt
  go_region_law
    ((refine step_append_lies _ (by rfl) (.tmp 52) (.tmp 55) 47 (by rfl) (b + 1) 9 i0 _ 1 16 Tryz.underlying47 hi hz0 hz1 hz2 (by rfl) (by decide) (.slice ao ns.length cap) ns.length (ns.map Value.string) (by rfl) (World.ownsRow.alloc hn4 _) ⟨w2.heap.size + 1, 0, none⟩ 1 1 [.string ⟨#[102, 111, 108, 100]⟩] (by rfl) (by rfl) (by rw [← hs4]; exact World.news_of_block (heap_alloc_new _ _)) (by simp [Value.oneCell']) (by omega) (by unfold maxLen; omega) (by omega) (by simp; omega) (w2.heap.size + 2) (by simp; omega) ?_; intro g cap' w5 hown5 hgrow5 hat5 hlt5; have r5 := rd_app hrd4 hgrow5 (Below.heap_alloc _ _ _ hbw4) hfar; obtain ⟨d0, d1, d2, d3, k1, k2, k3⟩ := r5.cells))
  all_goals obtain ⟨r6, n6, x6, y6, kp6, hs6, hg1, hg2⟩ := stg_app hn h.lt hgr HW4.out hrd4 hgrow5 ⟨rfl, rfl, rfl, by simp, fun k hk _ => Below.heap_alloc _ _ _ hk⟩ hown5 hat5
  all_goals clear hgrow5 hown5 hat5 r5 d0 d1 d2 d3 k1 k2 k3 c0 c1 c2 c3 f1 f2 f3 x0 hx4 hn4 hrd4 hs4 HW4 hn2 hrd hlt5 hbw4
  all_goals have hbl := h.lt
  all_goals generalize (w5.setCell ⟨b, 3, none⟩ (.slice (some ⟨g, 0, none⟩) (ns.length + 1) cap')) = w6 at *
  all_goals have z0 : w6.cell? ⟨w2.heap.size, 0, none⟩ = some (.string ⟨#[102, 111, 108, 100]⟩) := by simp [World.cell?, x6]
  all_goals have z1 : w6.cell? ⟨w2.heap.size, 1, none⟩ = some (.int .i64 ns.length) := by simp [World.cell?, x6]
  all_goals have z2 : w6.cell? ⟨w2.heap.size, 2, none⟩ = some (.int .i64 0) := by simp [World.cell?, x6]
  all_goals have z3 : w6.cell? ⟨w2.heap.size, 3, none⟩ = some (.string ⟨#[109, 97, 120]⟩) := by simp [World.cell?, x6]
  all_goals have z4 : w6.cell? ⟨w2.heap.size, 4, none⟩ = some (.slice none 0 0) := by simp [World.cell?, x6]
  all_goals have z5 : w6.cell? ⟨w2.heap.size, 5, none⟩ = some (.slice none 0 0) := by simp [World.cell?, x6]
  all_goals have v0 : w6.cell? ⟨w.heap.size, 0, none⟩ = some (.string ⟨#[]⟩) := by simp [World.cell?, y6]
  all_goals have u0 : w6.frozen? ⟨w.heap.size, 0, none⟩ = false := by simp [World.frozen?, y6]
  all_goals have v1 : w6.cell? ⟨w.heap.size, 1, none⟩ = some (.int .i64 0) := by simp [World.cell?, y6]
  all_goals have u1 : w6.frozen? ⟨w.heap.size, 1, none⟩ = false := by simp [World.frozen?, y6]
  all_goals have v2 : w6.cell? ⟨w.heap.size, 2, none⟩ = some (.int .i64 0) := by simp [World.cell?, y6]
  all_goals have u2 : w6.frozen? ⟨w.heap.size, 2, none⟩ = false := by simp [World.frozen?, y6]
  all_goals have v3 : w6.cell? ⟨w.heap.size, 3, none⟩ = some (.string ⟨#[]⟩) := by simp [World.cell?, y6]
  all_goals have u3 : w6.frozen? ⟨w.heap.size, 3, none⟩ = false := by simp [World.frozen?, y6]
  all_goals have v4 : w6.cell? ⟨w.heap.size, 4, none⟩ = some (.slice none 0 0) := by simp [World.cell?, y6]
  all_goals have u4 : w6.frozen? ⟨w.heap.size, 4, none⟩ = false := by simp [World.frozen?, y6]
  all_goals have v5 : w6.cell? ⟨w.heap.size, 5, none⟩ = some (.slice none 0 0) := by simp [World.cell?, y6]
  all_goals have u5 : w6.frozen? ⟨w.heap.size, 5, none⟩ = false := by simp [World.frozen?, y6]
  all_goals go_wp2
  all_goals have E := six_end (R := (false, q, ns ++ [⟨#[102, 111, 108, 100]⟩])) (.string ⟨#[102, 111, 108, 100]⟩) (.int .i64 ns.length) (.int .i64 0) (.string ⟨#[109, 97, 120]⟩) (.slice none 0 0) (.slice none 0 0) y6 r6 n6 kp6 (Nat.le_refl _) (by omega) (by simpa [Value.ownBlock] using hg1)
  all_goals exact bodyPost_ret (results_cell_row rfl _ _ w.heap.size 116 _ (0, 0) _ rfl E.1 Tryz.underlying116 rfl Tryz.sizeRS) rfl ⟨⟨_, _, _, _, _, _, _, _, _, _, rfl⟩, E.2⟩

set_option maxRecDepth 100000 in
set_option maxHeartbeats 4000000 in
theorem stg_fold_min (w : World) (b : Nat) (s : ByteArray) (p q : Nat) (nv : Value) (ns : List ByteArray) (h : Rd w b s p false nv) (hn : Nm w b nv ns) (hp : p ≤ s.size) (hs : s.size ≤ 120) (hnl : ns.length ≤ p)
    (hat : hdAt s p p = (true, q)) (hex : s.extract p q = ⟨#[102, 111, 108, 100, 32, 109, 105, 110]⟩) :
    Calls Tryz.prog 71 #[.pointer (some ⟨b, 0, none⟩)] w fun e w' => StgV e ∧ RdPost w b s nv (false, q, ns ++ [⟨#[102, 111, 108, 100]⟩]) w' := by
  obtain ⟨i0, hi, hz0, hz1, hz2⟩ := info_parts Tryz.infoSt
  obtain ⟨ao, cap, rfl⟩ := hn.form
  have h1 : Rd (w.alloc (.cells #[.string ⟨#[]⟩, .int .i64 0, .int .i64 0, .string ⟨#[]⟩, .slice none 0 0, .slice none 0 0] 116)) b s p false _ := h.of_block (Below.heap_alloc _ _ _ h.lt)
  have hn1 : Nm (w.alloc (.cells #[.string ⟨#[]⟩, .int .i64 0, .int .i64 0, .string ⟨#[]⟩, .slice none 0 0, .slice none 0 0] 116)) b _ ns := World.ownsRow.alloc hn _
  go_enter Tryz.func71, Tryz.ntmps71
  go_wp2_with fail
  refine (head_any _ b s p _ h1 hp hs).mono ?_
  rw [hat]
  rintro e w2 ⟨hr, -, hrd, hq1, hq2, hgr⟩
  obtain ⟨rfl, hhit⟩ := hr rfl
  replace hrd : Rd w2 b s q false (.slice ao ns.length cap) := hrd
  simp only [hex]
  obtain ⟨c0, c1, c2, c3, f1, f2, f3⟩ := hrd.cells
  have hn2 := hn1.kept hgr
  have hfar := hn2.far
  have hbw2 := hrd.lt
  go_wp2
  have exq : (ByteArray.mk #[102, 111, 108, 100, 32, 109, 105, 110]).extract 5 8 = ⟨#[109, 105, 110]⟩ := by rfl
  simp only [exq]
  generalize hW4 : w2.alloc (.cells #[.string ⟨#[102, 111, 108, 100]⟩, .int .i64 ns.length, .int .i64 0, .string ⟨#[109, 105, 110]⟩, .slice none 0 0, .slice none 0 0] 116) = w4
  have hrd4 : Rd w4 b s q false (.slice ao ns.length cap) := by rw [← hW4]; exact hrd.of_block (Below.heap_alloc _ _ _ hbw2)
  have hn4 : Nm w4 b (.slice ao ns.length cap) ns := by rw [← hW4]; exact World.ownsRow.alloc hn2 _
  have hs4 : w4.heap.size = w2.heap.size + 1 := by rw [← hW4]; simp
  have hx4 : w4.heap[w2.heap.size]? = some (.cells #[.string ⟨#[102, 111, 108, 100]⟩, .int .i64 ns.length, .int .i64 0, .string ⟨#[109, 105, 110]⟩, .slice none 0 0, .slice none 0 0] 116 (0, 0)) := by rw [← hW4]; exact heap_alloc_new _ _
  have HW4 : Hid (w2.alloc (.cells #[.string ⟨#[102, 111, 108, 100]⟩, .int .i64 ns.length, .int .i64 0, .string ⟨#[109, 105, 110]⟩, .slice none 0 0, .slice none 0 0] 116) = w4) := hW4
  clear hW4 c0 c1 c2 c3 f1 f2 f3
  obtain ⟨c0, c1, c2, c3, f1, f2, f3⟩ := hrd4.cells
  have x0 : w4.cell? ⟨w2.heap.size, 0, none⟩ = some (.string ⟨#[102, 111, 108, 100]⟩) := by simp [World.cell?, hx4]
  have hbw4 : b < w4.heap.size := hrd4.lt
  go_region_law
    ((refine step_append_lies _ (by rfl) (.tmp 52) (.tmp 55) 47 (by rfl) (b + 1) 9 i0 _ 1 16 Tryz.underlying47 hi hz0 hz1 hz2 (by rfl) (by decide) (.slice ao ns.length cap) ns.length (ns.map Value.string) (by rfl) (World.ownsRow.alloc hn4 _) ⟨w2.heap.size + 1, 0, none⟩ 1 1 [.string ⟨#[102, 111, 108, 100]⟩] (by rfl) (by rfl) (by rw [← hs4]; exact World.news_of_block (heap_alloc_new _ _)) (by simp [Value.oneCell']) (by omega) (by unfold maxLen; omega) (by omega) (by simp; omega) (w2.heap.size + 2) (by simp; omega) ?_; intro g cap' w5 hown5 hgrow5 hat5 hlt5; have r5 := rd_app hrd4 hgrow5 (Below.heap_alloc _ _ _ hbw4) hfar; obtain ⟨d0, d1, d2, d3, k1, k2, k3⟩ := r5.cells))
  all_goals obtain ⟨r6, n6, x6, y6, kp6, hs6, hg1, hg2⟩ := stg_app hn h.lt hgr HW4.out hrd4 hgrow5 ⟨rfl, rfl, rfl, by simp, fun k hk _ => Below.heap_alloc _ _ _ hk⟩ hown5 hat5
  all_goals clear hgrow5 hown5 hat5 r5 d0 d1 d2 d3 k1 k2 k3 c0 c1 c2 c3 f1 f2 f3 x0 hx4 hn4 hrd4 hs4 HW4 hn2 hrd hlt5 hbw4
  all_goals have hbl := h.lt
  all_goals generalize (w5.setCell ⟨b, 3, none⟩ (.slice (some ⟨g, 0, none⟩) (ns.length + 1) cap')) = w6 at *
  all_goals have z0 : w6.cell? ⟨w2.heap.size, 0, none⟩ = some (.string ⟨#[102, 111, 108, 100]⟩) := by simp [World.cell?, x6]
  all_goals have z1 : w6.cell? ⟨w2.heap.size, 1, none⟩ = some (.int .i64 ns.length) := by simp [World.cell?, x6]
  all_goals have z2 : w6.cell? ⟨w2.heap.size, 2, none⟩ = some (.int .i64 0) := by simp [World.cell?, x6]
  all_goals have z3 : w6.cell? ⟨w2.heap.size, 3, none⟩ = some (.string ⟨#[109, 105, 110]⟩) := by simp [World.cell?, x6]
  all_goals have z4 : w6.cell? ⟨w2.heap.size, 4, none⟩ = some (.slice none 0 0) := by simp [World.cell?, x6]
  all_goals have z5 : w6.cell? ⟨w2.heap.size, 5, none⟩ = some (.slice none 0 0) := by simp [World.cell?, x6]
  all_goals have v0 : w6.cell? ⟨w.heap.size, 0, none⟩ = some (.string ⟨#[]⟩) := by simp [World.cell?, y6]
  all_goals have u0 : w6.frozen? ⟨w.heap.size, 0, none⟩ = false := by simp [World.frozen?, y6]
  all_goals have v1 : w6.cell? ⟨w.heap.size, 1, none⟩ = some (.int .i64 0) := by simp [World.cell?, y6]
  all_goals have u1 : w6.frozen? ⟨w.heap.size, 1, none⟩ = false := by simp [World.frozen?, y6]
  all_goals have v2 : w6.cell? ⟨w.heap.size, 2, none⟩ = some (.int .i64 0) := by simp [World.cell?, y6]
  all_goals have u2 : w6.frozen? ⟨w.heap.size, 2, none⟩ = false := by simp [World.frozen?, y6]
  all_goals have v3 : w6.cell? ⟨w.heap.size, 3, none⟩ = some (.string ⟨#[]⟩) := by simp [World.cell?, y6]
  all_goals have u3 : w6.frozen? ⟨w.heap.size, 3, none⟩ = false := by simp [World.frozen?, y6]
  all_goals have v4 : w6.cell? ⟨w.heap.size, 4, none⟩ = some (.slice none 0 0) := by simp [World.cell?, y6]
  all_goals have u4 : w6.frozen? ⟨w.heap.size, 4, none⟩ = false := by simp [World.frozen?, y6]
  all_goals have v5 : w6.cell? ⟨w.heap.size, 5, none⟩ = some (.slice none 0 0) := by simp [World.cell?, y6]
  all_goals have u5 : w6.frozen? ⟨w.heap.size, 5, none⟩ = false := by simp [World.frozen?, y6]
  all_goals go_wp2
  all_goals have E := six_end (R := (false, q, ns ++ [⟨#[102, 111, 108, 100]⟩])) (.string ⟨#[102, 111, 108, 100]⟩) (.int .i64 ns.length) (.int .i64 0) (.string ⟨#[109, 105, 110]⟩) (.slice none 0 0) (.slice none 0 0) y6 r6 n6 kp6 (Nat.le_refl _) (by omega) (by simpa [Value.ownBlock] using hg1)
  all_goals exact bodyPost_ret (results_cell_row rfl _ _ w.heap.size 116 _ (0, 0) _ rfl E.1 Tryz.underlying116 rfl Tryz.sizeRS) rfl ⟨⟨_, _, _, _, _, _, _, _, _, _, rfl⟩, E.2⟩

set_option maxRecDepth 100000 in
set_option maxHeartbeats 4000000 in
theorem stg_fold_sum (w : World) (b : Nat) (s : ByteArray) (p q : Nat) (nv : Value) (ns : List ByteArray) (h : Rd w b s p false nv) (hn : Nm w b nv ns) (hp : p ≤ s.size) (hs : s.size ≤ 120) (hnl : ns.length ≤ p)
    (hat : hdAt s p p = (true, q)) (hex : s.extract p q = ⟨#[102, 111, 108, 100, 32, 115, 117, 109]⟩) :
    Calls Tryz.prog 71 #[.pointer (some ⟨b, 0, none⟩)] w fun e w' => StgV e ∧ RdPost w b s nv (false, q, ns ++ [⟨#[102, 111, 108, 100]⟩]) w' := by
  obtain ⟨i0, hi, hz0, hz1, hz2⟩ := info_parts Tryz.infoSt
  obtain ⟨ao, cap, rfl⟩ := hn.form
  have h1 : Rd (w.alloc (.cells #[.string ⟨#[]⟩, .int .i64 0, .int .i64 0, .string ⟨#[]⟩, .slice none 0 0, .slice none 0 0] 116)) b s p false _ := h.of_block (Below.heap_alloc _ _ _ h.lt)
  have hn1 : Nm (w.alloc (.cells #[.string ⟨#[]⟩, .int .i64 0, .int .i64 0, .string ⟨#[]⟩, .slice none 0 0, .slice none 0 0] 116)) b _ ns := World.ownsRow.alloc hn _
  go_enter Tryz.func71, Tryz.ntmps71
  go_wp2_with fail
  refine (head_any _ b s p _ h1 hp hs).mono ?_
  rw [hat]
  rintro e w2 ⟨hr, -, hrd, hq1, hq2, hgr⟩
  obtain ⟨rfl, hhit⟩ := hr rfl
  replace hrd : Rd w2 b s q false (.slice ao ns.length cap) := hrd
  simp only [hex]
  obtain ⟨c0, c1, c2, c3, f1, f2, f3⟩ := hrd.cells
  have hn2 := hn1.kept hgr
  have hfar := hn2.far
  have hbw2 := hrd.lt
  go_wp2
  have exq : (ByteArray.mk #[102, 111, 108, 100, 32, 115, 117, 109]).extract 5 8 = ⟨#[115, 117, 109]⟩ := by rfl
  simp only [exq]
  generalize hW4 : w2.alloc (.cells #[.string ⟨#[102, 111, 108, 100]⟩, .int .i64 ns.length, .int .i64 0, .string ⟨#[115, 117, 109]⟩, .slice none 0 0, .slice none 0 0] 116) = w4
  have hrd4 : Rd w4 b s q false (.slice ao ns.length cap) := by rw [← hW4]; exact hrd.of_block (Below.heap_alloc _ _ _ hbw2)
  have hn4 : Nm w4 b (.slice ao ns.length cap) ns := by rw [← hW4]; exact World.ownsRow.alloc hn2 _
  have hs4 : w4.heap.size = w2.heap.size + 1 := by rw [← hW4]; simp
  have hx4 : w4.heap[w2.heap.size]? = some (.cells #[.string ⟨#[102, 111, 108, 100]⟩, .int .i64 ns.length, .int .i64 0, .string ⟨#[115, 117, 109]⟩, .slice none 0 0, .slice none 0 0] 116 (0, 0)) := by rw [← hW4]; exact heap_alloc_new _ _
  have HW4 : Hid (w2.alloc (.cells #[.string ⟨#[102, 111, 108, 100]⟩, .int .i64 ns.length, .int .i64 0, .string ⟨#[115, 117, 109]⟩, .slice none 0 0, .slice none 0 0] 116) = w4) := hW4
  clear hW4 c0 c1 c2 c3 f1 f2 f3
  obtain ⟨c0, c1, c2, c3, f1, f2, f3⟩ := hrd4.cells
  have x0 : w4.cell? ⟨w2.heap.size, 0, none⟩ = some (.string ⟨#[102, 111, 108, 100]⟩) := by simp [World.cell?, hx4]
  have hbw4 : b < w4.heap.size := hrd4.lt
  go_region_law
    ((refine step_append_lies _ (by rfl) (.tmp 52) (.tmp 55) 47 (by rfl) (b + 1) 9 i0 _ 1 16 Tryz.underlying47 hi hz0 hz1 hz2 (by rfl) (by decide) (.slice ao ns.length cap) ns.length (ns.map Value.string) (by rfl) (World.ownsRow.alloc hn4 _) ⟨w2.heap.size + 1, 0, none⟩ 1 1 [.string ⟨#[102, 111, 108, 100]⟩] (by rfl) (by rfl) (by rw [← hs4]; exact World.news_of_block (heap_alloc_new _ _)) (by simp [Value.oneCell']) (by omega) (by unfold maxLen; omega) (by omega) (by simp; omega) (w2.heap.size + 2) (by simp; omega) ?_; intro g cap' w5 hown5 hgrow5 hat5 hlt5; have r5 := rd_app hrd4 hgrow5 (Below.heap_alloc _ _ _ hbw4) hfar; obtain ⟨d0, d1, d2, d3, k1, k2, k3⟩ := r5.cells))
  all_goals obtain ⟨r6, n6, x6, y6, kp6, hs6, hg1, hg2⟩ := stg_app hn h.lt hgr HW4.out hrd4 hgrow5 ⟨rfl, rfl, rfl, by simp, fun k hk _ => Below.heap_alloc _ _ _ hk⟩ hown5 hat5
  all_goals clear hgrow5 hown5 hat5 r5 d0 d1 d2 d3 k1 k2 k3 c0 c1 c2 c3 f1 f2 f3 x0 hx4 hn4 hrd4 hs4 HW4 hn2 hrd hlt5 hbw4
  all_goals have hbl := h.lt
  all_goals generalize (w5.setCell ⟨b, 3, none⟩ (.slice (some ⟨g, 0, none⟩) (ns.length + 1) cap')) = w6 at *
  all_goals have z0 : w6.cell? ⟨w2.heap.size, 0, none⟩ = some (.string ⟨#[102, 111, 108, 100]⟩) := by simp [World.cell?, x6]
  all_goals have z1 : w6.cell? ⟨w2.heap.size, 1, none⟩ = some (.int .i64 ns.length) := by simp [World.cell?, x6]
  all_goals have z2 : w6.cell? ⟨w2.heap.size, 2, none⟩ = some (.int .i64 0) := by simp [World.cell?, x6]
  all_goals have z3 : w6.cell? ⟨w2.heap.size, 3, none⟩ = some (.string ⟨#[115, 117, 109]⟩) := by simp [World.cell?, x6]
  all_goals have z4 : w6.cell? ⟨w2.heap.size, 4, none⟩ = some (.slice none 0 0) := by simp [World.cell?, x6]
  all_goals have z5 : w6.cell? ⟨w2.heap.size, 5, none⟩ = some (.slice none 0 0) := by simp [World.cell?, x6]
  all_goals have v0 : w6.cell? ⟨w.heap.size, 0, none⟩ = some (.string ⟨#[]⟩) := by simp [World.cell?, y6]
  all_goals have u0 : w6.frozen? ⟨w.heap.size, 0, none⟩ = false := by simp [World.frozen?, y6]
  all_goals have v1 : w6.cell? ⟨w.heap.size, 1, none⟩ = some (.int .i64 0) := by simp [World.cell?, y6]
  all_goals have u1 : w6.frozen? ⟨w.heap.size, 1, none⟩ = false := by simp [World.frozen?, y6]
  all_goals have v2 : w6.cell? ⟨w.heap.size, 2, none⟩ = some (.int .i64 0) := by simp [World.cell?, y6]
  all_goals have u2 : w6.frozen? ⟨w.heap.size, 2, none⟩ = false := by simp [World.frozen?, y6]
  all_goals have v3 : w6.cell? ⟨w.heap.size, 3, none⟩ = some (.string ⟨#[]⟩) := by simp [World.cell?, y6]
  all_goals have u3 : w6.frozen? ⟨w.heap.size, 3, none⟩ = false := by simp [World.frozen?, y6]
  all_goals have v4 : w6.cell? ⟨w.heap.size, 4, none⟩ = some (.slice none 0 0) := by simp [World.cell?, y6]
  all_goals have u4 : w6.frozen? ⟨w.heap.size, 4, none⟩ = false := by simp [World.frozen?, y6]
  all_goals have v5 : w6.cell? ⟨w.heap.size, 5, none⟩ = some (.slice none 0 0) := by simp [World.cell?, y6]
  all_goals have u5 : w6.frozen? ⟨w.heap.size, 5, none⟩ = false := by simp [World.frozen?, y6]
  all_goals go_wp2
  all_goals have E := six_end (R := (false, q, ns ++ [⟨#[102, 111, 108, 100]⟩])) (.string ⟨#[102, 111, 108, 100]⟩) (.int .i64 ns.length) (.int .i64 0) (.string ⟨#[115, 117, 109]⟩) (.slice none 0 0) (.slice none 0 0) y6 r6 n6 kp6 (Nat.le_refl _) (by omega) (by simpa [Value.ownBlock] using hg1)
  all_goals exact bodyPost_ret (results_cell_row rfl _ _ w.heap.size 116 _ (0, 0) _ rfl E.1 Tryz.underlying116 rfl Tryz.sizeRS) rfl ⟨⟨_, _, _, _, _, _, _, _, _, _, rfl⟩, E.2⟩
end Go.Proofs.YtdfkjgogdbeokaaGreatDoor
