/-
  DERIVED. The code's reader: named.
-/
import Derived.Test.YtdfkjgogdbeokaaGreatDoorCdTab
import Derived.Deep.AppendLies
import Derived.OwnWalk
namespace Go.Proofs.YtdfkjgogdbeokaaGreatDoor
open Go.RowKit
set_option linter.unusedVariables false

def NamedPost (w : World) (b : Nat) (s : ByteArray) (p k : Nat) (R : Option Nat × Nat) (e : Ending) (w' : World) : Prop :=
  (match R.1 with | some i => ∃ hi : i < patL.length, e = .returned (.tuple #[patV patL[i], .bool true]) | none => e = .returned (.tuple #[.agg #[.string ⟨#[]⟩, .int .i64 0, .int .i64 0, .int .i64 0], .bool false])) ∧ Cr w' b s (p + R.2) k ∧ w.grownBy w' (some b)
def nmV : List Value := nmL.map Value.string
theorem wordS_lt (rest : ByteArray) : ∀ (xs : List ByteArray) (i far j m : Nat), wordS rest xs i far = (some j, m) → j < i + xs.length := by
  intro xs
  induction xs with
  | nil => intro i far j m h; cases h
  | cons x xs ih =>
    intro i far j m h
    unfold wordS at h
    split at h
    · cases h; simp
    · have := ih _ _ _ _ h
      simp only [List.length_cons]
      omega
theorem four_set {w : World} {k : Nat} {t : TypeId} {x0 x1 x2 x3 : Value} (h : w.heap[k]? = some (.cells #[x0, x1, x2, x3] t (0, 0))) (y0 y1 y2 y3 : Value) :
    ((((w.setCell ⟨k, 0, none⟩ y0).setCell ⟨k, 1, none⟩ y1).setCell ⟨k, 2, none⟩ y2).setCell ⟨k, 3, none⟩ y3).cell? ⟨k, 0, none⟩ = some y0 ∧
    ((((w.setCell ⟨k, 0, none⟩ y0).setCell ⟨k, 1, none⟩ y1).setCell ⟨k, 2, none⟩ y2).setCell ⟨k, 3, none⟩ y3).cell? ⟨k, 1, none⟩ = some y1 ∧
    ((((w.setCell ⟨k, 0, none⟩ y0).setCell ⟨k, 1, none⟩ y1).setCell ⟨k, 2, none⟩ y2).setCell ⟨k, 3, none⟩ y3).cell? ⟨k, 2, none⟩ = some y2 ∧
    ((((w.setCell ⟨k, 0, none⟩ y0).setCell ⟨k, 1, none⟩ y1).setCell ⟨k, 2, none⟩ y2).setCell ⟨k, 3, none⟩ y3).cell? ⟨k, 3, none⟩ = some y3 := by
  have hb := setCell_block (setCell_block (setCell_block (setCell_block (i := 0) h y0) (i := 1) y1) (i := 2) y2) (i := 3) y3
  refine ⟨?_, ?_, ?_, ?_⟩ <;> simp [World.cell?, hb]
theorem cr_four {w : World} {k b p n : Nat} {s : ByteArray} {y0 y1 y2 y3 : Value} (h : Cr w b s p n) (hk : b ≠ k) : Cr ((((w.setCell ⟨k, 0, none⟩ y0).setCell ⟨k, 1, none⟩ y1).setCell ⟨k, 2, none⟩ y2).setCell ⟨k, 3, none⟩ y3) b s p n := by
  have e : ∀ (x : World) (i : Nat) (v : Value), Cr x b s p n → Cr (x.setCell ⟨k, i, none⟩ v) b s p n := fun x i v h => h.of_block (Below.heap_setCell _ _ _ _ (by exact hk))
  exact e _ _ _ (e _ _ _ (e _ _ _ (e _ _ _ h)))
theorem grown_new {w w1 : World} {b k i : Nat} {v : Value} (h : w.grownBy w1 (some b)) (hk : w.heap.size ≤ k) : w.grownBy (w1.setCell ⟨k, i, none⟩ v) (some b) := by
  have g := grown_set w1 k i v
  refine ⟨g.os.trans h.os, g.tape.trans h.tape, g.output.trans h.output, Nat.le_trans h.size g.size, fun j hj hb => ?_⟩
  exact (g.block j (Nat.lt_of_lt_of_le hj h.size) (by intro e; cases e; omega)).trans (h.block j hj hb)
theorem grown_four {w w1 : World} {b k : Nat} {y0 y1 y2 y3 : Value} (h : w.grownBy w1 (some b)) (hk : w.heap.size ≤ k) : w.grownBy ((((w1.setCell ⟨k, 0, none⟩ y0).setCell ⟨k, 1, none⟩ y1).setCell ⟨k, 2, none⟩ y2).setCell ⟨k, 3, none⟩ y3) (some b) :=
  grown_new (grown_new (grown_new (grown_new h hk) hk) hk) hk
theorem Tryz.infoStr : (Tryz.prog.info? 9).map (fun i => (i.zero, i.size, i.bytes)) = some (some (.string ⟨#[]⟩), 1, 16) := by kernel_rfl

theorem row_form1 {w : World} {b1 n1 z1 : Nat} {t1 : TypeId} {v1 : Value} {x1 : List Value} (h1 : w.ownsRow b1 t1 z1 v1 n1 x1) : ∃ ao cap, v1 = .slice ao n1 cap := by
  rcases h1.2 with ⟨rfl, e⟩ | ⟨g1, cap, _, rfl, _, e1, _⟩
  · exact ⟨none, 0, by rw [e]⟩
  · exact ⟨_, cap, rfl⟩
theorem row_cell {w : World} {base g cap n : Nat} {e : TypeId} {xs : List Value} (h : w.ownsRow base e 1 (.slice (some ⟨g, 0, none⟩) n cap) n xs) {i : Nat} {u : Value} (hi : xs[i]? = some u) : w.cell? ⟨g, i, none⟩ = some u := by
  rcases h.2 with ⟨e, _⟩ | ⟨g', cap', cur, e, _, hg, _, _, _, h5⟩
  · cases e
  · cases e
    rw [← h5, List.getElem?_take] at hi
    split at hi
    · simp only [World.cell?, hg]
      rw [← Array.getElem?_toList]
      exact hi
    · cases hi

set_option maxRecDepth 100000 in
set_option maxHeartbeats 4000000 in
theorem named_any (w : World) (b : Nat) (s : ByteArray) (p k : Nat) (h : Cr w b s p k) (hp : p ≤ s.size) (hs : s.size ≤ 120) (hG : PatG w) (hbG : b ≠ 8) :
    Calls Tryz.prog 114 #[.pointer (some ⟨b, 0, none⟩)] w fun e w' => NamedPost w b s p k (wordS (s.extract p s.size) nmL 0 0) e w' := by
  generalize hRES : wordS (s.extract p s.size) nmL 0 0 = RES
  obtain ⟨i1, hi, hz0, hz1, hz2⟩ := info_parts Tryz.infoStr
  have hbl := h.lt
  have hG1 := hG.grown (grown_alloc w (.cells #[.string ⟨#[]⟩, .int .i64 0, .int .i64 0, .int .i64 0] 212) none) (by simp)
  obtain ⟨ARR, hARR, hix⟩ : ∃ ARR, Value.agg patF.toArray = ARR ∧ ∀ (w : World) (j : Nat) (hj : j < patL.length), (Instr.index 233 ARR (.int .i64 (j : Int))).run Tryz.prog w = .ok (patV patL[j]) w := ⟨_, rfl, index_law⟩
  go_enter Tryz.func114, Tryz.ntmps114
  go_wp2
  refine wp_load_mid 233 _ rfl 8 0 rfl patF _ hG1.cells Tryz.undP rfl Tryz.sizeP ?_
  rw [hARR]
  clear hARR
  generalize hW0 : w.alloc (.cells #[.string ⟨#[]⟩, .int .i64 0, .int .i64 0, .int .i64 0] 212) = w0 at *
  go_wp2
  have hs0 : w.heap.size < w0.heap.size := by rw [← hW0]; simp
  have hg0 : w.grownBy w0 none := by rw [← hW0]; exact grown_alloc _ _ _
  have hr0 : w0.heap[w.heap.size]? = some (.cells #[.string ⟨#[]⟩, .int .i64 0, .int .i64 0, .int .i64 0] 212 (0, 0)) := by rw [← hW0]; exact heap_alloc_new _ _
  clear hW0
  have HG : Hid (PatG w) := hG
  have HG1 : Hid (PatG w0) := hG1
  clear hG hG1
  go_loopw [4, 10] (fun t4 t10 wr => ∃ j : Nat, j ≤ 21 ∧ t10 = .int .i64 j ∧ wr.ownsRow w0.heap.size 9 1 t4 j (nmV.take j) ∧ w0.grownBy wr none) (fun _ t _ => 21 - (intOf t).toNat)
  case atStart => exact ⟨0, by omega, rfl, World.ownsRow_nil _ _ _ _, grown_refl _ _⟩
  case round =>
    obtain ⟨j, hj, rfl, hrow, hgr⟩ := hrel
    obtain ⟨ao, cap, rfl⟩ := row_form1 hrow
    have hpl : patL.length = 21 := rfl
    by_cases hlt : j < 21
    · have hji : (j : Int) < 21 := by omega
      have hlt2 : j < patL.length := by omega
      have hixj := fun w => hix w j hlt2
      have hnx : nmV.take (j + 1) = nmV.take j ++ [.string patL[j].1] := by
        have hl2 : j < nmV.length := by have : nmV.length = 21 := rfl; omega
        rw [List.take_add_one, List.getElem?_eq_getElem hl2]
        simp [nmV, nmL]
      unfold patV at hixj
      generalize patL[j].1 = nm at hixj hnx
      generalize patL[j].2.1 = fm at hixj
      generalize patL[j].2.2.1 = lo at hixj
      generalize patL[j].2.2.2 = hi9 at hixj
      clear hix
      have hs0r := hgr.size
      go_wp2_with (at_builtin; go_must (refine wpList_append_lies _ rfl (.tmp 13) (.tmp 16) 47 rfl w0.heap.size 9 i1 _ 1 16 Tryz.underlying47 hi hz0 hz1 hz2 rfl (by decide) (.slice ao j cap) j _ rfl (World.ownsRow.alloc (World.ownsRow.alloc hrow _) _) ⟨wr.heap.size + 1, 0, none⟩ 1 1 [.string nm] rfl rfl ?c1 ?c2 (by omega) ?c3 ?c4 ?c5 (wr.heap.size + 2) ?c6 ?_))
      case c1 => exact World.news_of_block (heap_alloc2_new _ _ _)
      case c2 => simp [Value.oneCell']
      case c3 => unfold maxLen; omega
      case c4 => omega
      case c5 => simp; omega
      case c6 => simp
      intro g cap' w12 hown12 hgrow12 hat12 hlt12
      have hgr12 : w0.grownBy w12 none := by
        have h3 := (grown_alloc wr (.cells #[.string nm, .int .i64 fm, .int .i64 lo, .int .i64 hi9] 212) none).trans (grown_alloc _ (.cells #[.string nm] 9) none)
        refine ⟨hgrow12.os.trans (h3.os.trans hgr.os), hgrow12.tape.trans (h3.tape.trans hgr.tape), hgrow12.output.trans (h3.output.trans hgr.output), Nat.le_trans hgr.size (Nat.le_trans h3.size hgrow12.size), fun i hi _ => ?_⟩
        have l1 := Nat.lt_of_lt_of_le hi hgr.size
        refine (hgrow12.block i (Nat.lt_of_lt_of_le l1 h3.size) ?_).trans ((h3.block i l1 (by simp)).trans (hgr.block i hi (by simp)))
        intro e
        have := (World.ownsRow.lt hrow i e.symm).1
        omega
      rw [← hnx] at hown12
      go_wp2
      exact ⟨⟨j + 1, by omega, by simp, hown12, hgr12⟩, by simp [intOf]; omega⟩
    · have hj3 : j = 21 := by omega
      subst hj3
      clear hix
      have hxs : nmV.take 21 = nmL.map Value.string := rfl
      rw [hxs] at hrow
      obtain ⟨g, cap2, e, hgb, hgl⟩ := hrow.form (by omega)
      cases e
      have hcell : ∀ i (hi : i < nmL.length), wr.cell? ⟨g, i, none⟩ = some (.string nmL[i]) := fun i hi => row_cell hrow (by simp [hi])
      have hcr : Cr wr b s p k := (h.of_block (hg0.block b hbl (by simp))).of_block (hgr.block b (by omega) (by simp))
      have hPG : PatG wr := (HG1.out).grown hgr (by simp)
      have hrr : wr.heap[w.heap.size]? = some (.cells #[.string ⟨#[]⟩, .int .i64 0, .int .i64 0, .int .i64 0] 212 (0, 0)) := by rw [hgr.block _ hs0 (by simp)]; exact hr0
      have hwd := word_any wr b s p k hcr hp hs g cap nmL hcell (by decide)
      have hlen : nmL.length = 21 := rfl
      rw [hRES, hlen] at hwd
      have hRL := wordS_lt (s.extract p s.size) nmL 0 0
      rw [hRES, hlen] at hRL
      clear hRES
      obtain ⟨R1, m⟩ := RES
      have hgw : w.grownBy wr none := hg0.trans hgr
      clear hr0 hrow hcell hxs HG1 HG hg0
      go_wp2_with fail
      refine hwd.mono ?_
      rintro e w3 ⟨he, hc3, hg3⟩
      have hPG3 : PatG w3 := hPG.grown hg3 (by simpa using hbG)
      have hr3 : w3.heap[w.heap.size]? = some (.cells #[.string ⟨#[]⟩, .int .i64 0, .int .i64 0, .int .i64 0] 212 (0, 0)) := by rw [hg3.block _ (Nat.lt_of_lt_of_le hs0 hgr.size) (by simp; omega)]; exact hrr
      have hgw3 : w.grownBy w3 (some b) := by
        refine ⟨hg3.os.trans hgw.os, hg3.tape.trans hgw.tape, hg3.output.trans hgw.output, Nat.le_trans hgw.size hg3.size, fun i hi hb => ?_⟩
        exact (hg3.block i (Nat.lt_of_lt_of_le hi hgw.size) hb).trans (hgw.block i hi (by simp))
      clear hwd hcr hPG hrr hgw
      have HP : Hid (PatG w3) := hPG3
      clear hPG3
      have v0 : w3.cell? ⟨w.heap.size, 0, none⟩ = some (.string ⟨#[]⟩) := by simp [World.cell?, hr3]
      have u0 : w3.frozen? ⟨w.heap.size, 0, none⟩ = false := by simp [World.frozen?, hr3]
      have v1 : w3.cell? ⟨w.heap.size, 1, none⟩ = some (.int .i64 0) := by simp [World.cell?, hr3]
      have u1 : w3.frozen? ⟨w.heap.size, 1, none⟩ = false := by simp [World.frozen?, hr3]
      have v2 : w3.cell? ⟨w.heap.size, 2, none⟩ = some (.int .i64 0) := by simp [World.cell?, hr3]
      have u2 : w3.frozen? ⟨w.heap.size, 2, none⟩ = false := by simp [World.frozen?, hr3]
      have v3 : w3.cell? ⟨w.heap.size, 3, none⟩ = some (.int .i64 0) := by simp [World.cell?, hr3]
      have u3 : w3.frozen? ⟨w.heap.size, 3, none⟩ = false := by simp [World.frozen?, hr3]
      cases R1 with
      | none =>
        simp only at he
        subst he
        obtain ⟨q0, q1, q2, q3⟩ := four_set hr3 (.string ⟨#[]⟩) (.int .i64 0) (.int .i64 0) (.int .i64 0)
        go_wp2
        refine bodyPost_ret (v := .tuple #[.agg #[.string ⟨#[]⟩, .int .i64 0, .int .i64 0, .int .i64 0], .bool false]) (by simp [results, Tryz.results114, go_sem, q0, q1, q2, q3]) rfl ⟨rfl, cr_four hc3 (by omega), grown_four hgw3 (by omega)⟩
      | some i =>
        simp only at he
        subst he
        have hi21 : i < 21 := by have := hRL i m rfl; omega
        have hii : (i : Int) < 21 := by omega
        have hip : i < patL.length := hi21
        have hrw := HP.out.row i hip
        have p0 : w3.cell? ⟨8, i * 4, none⟩ = some (.string patL[i].1) := by have := hrw 0 _ rfl; rwa [Nat.add_zero, Nat.mul_comm] at this
        have p1 : w3.cell? ⟨8, i * 4 + 1, none⟩ = some (.int .i64 patL[i].2.1) := by have := hrw 1 _ rfl; rwa [Nat.mul_comm] at this
        have p2 : w3.cell? ⟨8, i * 4 + 2, none⟩ = some (.int .i64 patL[i].2.2.1) := by have := hrw 2 _ rfl; rwa [Nat.mul_comm] at this
        have p3 : w3.cell? ⟨8, i * 4 + 3, none⟩ = some (.int .i64 patL[i].2.2.2) := by have := hrw 3 _ rfl; rwa [Nat.mul_comm] at this
        have hpv : patV patL[i] = .agg #[.string patL[i].1, .int .i64 patL[i].2.1, .int .i64 patL[i].2.2.1, .int .i64 patL[i].2.2.2] := rfl
        generalize hPV : patL[i] = PV at *
        obtain ⟨nm, fm, lo, hi9⟩ := PV
        simp only at p0 p1 p2 p3 hpv
        clear hrw
        obtain ⟨q0, q1, q2, q3⟩ := four_set hr3 (.string nm) (.int .i64 fm) (.int .i64 lo) (.int .i64 hi9)
        go_wp2
        refine bodyPost_ret (v := .tuple #[patV (nm, fm, lo, hi9), .bool true]) (by simp [results, Tryz.results114, go_sem, q0, q1, q2, q3, hpv]) rfl ⟨⟨hip, by rw [hPV]⟩, cr_four hc3 (by omega), grown_four hgw3 (by omega)⟩
end Go.Proofs.YtdfkjgogdbeokaaGreatDoor
