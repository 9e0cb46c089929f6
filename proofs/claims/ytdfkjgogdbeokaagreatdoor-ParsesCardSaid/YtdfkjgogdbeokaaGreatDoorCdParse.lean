/-
  DERIVED. flow.Parse at any text.
-/
import Derived.Test.YtdfkjgogdbeokaaGreatDoorCdDeep
import Derived.Test.YtdfkjgogdbeokaaGreatDoorNum
namespace Go.Proofs.YtdfkjgogdbeokaaGreatDoor
open Go.RowKit
set_option linter.unusedVariables false

/-- What flow.Parse answers at a text that is not too long. -/
def ParsePost (a : Nat → Addr) (w : World) (s : ByteArray) (R : Rs) (e : Ending) (w' : World) : Prop :=
  w.grownBy w' none ∧
  ((R.1 = true ∧ ∃ j, e = .returned (.tuple #[.pointer none, .iface 149 (.pointer (some ⟨j, 0, none⟩))]) ∧ w.heap.size ≤ j ∧ w'.heap[j]? = some (.cells #[.int .i64 R.2.1] 151 (0, 0))) ∨
   (R.1 = false ∧ 12 < R.2.2.length ∧ e = .returned (.tuple #[.pointer none, .iface 241 (.pointer (some (a 2)))])) ∨
   (R.1 = false ∧ R.2.2.length ≤ 12 ∧ ∃ j v, ∃ r : Row, e = .returned (.tuple #[.pointer (some ⟨j, 0, none⟩), .nilIface]) ∧ w.heap.size ≤ j ∧ w'.heap[j]? = some (.cells #[.string s, v] 91 (0, 0)) ∧
      RowAt w' v r.vals ∧ (∀ g, v.ownBlock = some g → w.heap.size ≤ g) ∧ r.lies w' (fun k => w.heap.size ≤ k) ∧ r.names = R.2.2 ∧ r.numd 0))

set_option maxRecDepth 100000 in
set_option maxHeartbeats 1000000 in
theorem parse_long (a : Nat → Addr) (w : World) (s : ByteArray) (hS : Sents a w) (h : 120 < s.size) :
    Calls Tryz.prog 51 #[.string s] w fun e w' => e = .returned (.tuple #[.pointer none, .iface 241 (.pointer (some (a 1)))]) ∧ w.grownBy w' none := by
  have hi : (120 : Int) < (s.size : Int) := by omega
  have c1 : w.cell? ⟨0, 0, none⟩ = some (.iface 241 (.pointer (some (a 1)))) := hS.cell 1 (by omega)
  go_enter Tryz.func51, Tryz.ntmps51
  go_wp2
  go_quiet (fail)
  go_wp2
  go_ret2
  exact ⟨rfl, grown_drewN _ _ _⟩

set_option maxRecDepth 100000 in
set_option maxHeartbeats 4000000 in
theorem parse_short (a : Nat → Addr) (w : World) (s : ByteArray) (hS : Sents a w) (hG : PatG w) (h : s.size ≤ 120) :
    Calls Tryz.prog 51 #[.string s] w fun e w' => ParsePost a w s (pR s) e w' := by
  have hi : ¬ (120 : Int) < (s.size : Int) := by omega
  have hf := lnF_fits s (s.size + 1) 0 (false, 0, []) (by simp) (by simp)
  have hbG : w.heap.size ≠ 8 := by have := hG.lt; omega
  have hcr : Cr (w.alloc (.cells #[.string s, .int .i64 0, .int .i64 0] 146)) w.heap.size s 0 ([] : List ByteArray).length := heap_alloc_new _ _
  have hG1 := hG.grown (grown_alloc w (.cells #[.string s, .int .i64 0, .int .i64 0] 146) none) (by simp)
  have hln := cline_any w.heap.size s h hbG (s.size + 1) 0 0 _ 0 [] rfl (by omega) (by omega) (by simp) hG1 hcr
  have hpr : lnF s (s.size + 1) 0 (false, 0, []) = pR s := rfl
  rw [hpr] at hln hf
  clear hpr
  have hz1 : (w.alloc (.cells #[.string s, .int .i64 0, .int .i64 0] 146)).heap.size = w.heap.size + 1 := by simp
  have ga := grown_alloc w (.cells #[.string s, .int .i64 0, .int .i64 0] 146) none
  have hS1 := hS.alloc (.cells #[.string s, .int .i64 0, .int .i64 0] 146)
  generalize pR s = R at *
  obtain ⟨bad, p, ns⟩ := R
  go_enter Tryz.func51, Tryz.ntmps51
  go_wp2_with fail
  generalize w.alloc (.cells #[.string s, .int .i64 0, .int .i64 0] 146) = w1 at *
  refine hln.mono ?_
  rintro e w2 ⟨v, rfl, g2, ⟨ao, n, cap, rfl⟩, k', c2, r2⟩
  have hcl : clP 0 (bad, p, ns) = p := rfl
  rw [hcl] at c2
  have hg : w.grownBy w2 none := ⟨g2.os.trans ga.os, g2.tape.trans ga.tape, g2.output.trans ga.output, Nat.le_trans ga.size g2.size, fun j hj _ => (g2.block j (by omega) (by simp; omega)).trans (ga.block j hj (by simp))⟩
  have hS2 : Sents a w2 := hS.below ⟨hg.os, hg.tape, hg.output, hg.size, fun j hj => hg.block j hj (by simp)⟩
  have hm2 : w2.cell? ⟨1, 0, none⟩ = some (.iface 241 (.pointer (some (a 2)))) := hS2.cell 2 (by omega)
  obtain ⟨d0, d1, d2, f1, f2⟩ := c2.cells
  replace hf : 0 ≤ p ∧ p ≤ s.size ∧ ns.length ≤ p := hf
  clear hln
  cases bad with
  | true =>
    clear r2
    go_wp2
    go_region_held3 (fun w' => w'.cell? ⟨w.heap.size, 1, none⟩ = some (.int .i64 (p : Nat))) (go_keep) (fail)
    all_goals go_wp2
    go_ret2
    exact ⟨(hg.trans (grown_alloc _ _ _)).trans (grown_drew _ _), Or.inl ⟨rfl, w2.heap.size, rfl, hg.size, heap_alloc_new _ _⟩⟩
  | false =>
    obtain ⟨hk, r, rr, rb, rl, rn, rd⟩ := r2 rfl
    subst hk
    have RN : Hid (ns = [] ++ r.names) := rn
    have RD : Hid (r.numd 0) := rd
    clear rn rd
    replace d2 : w2.cell? ⟨w.heap.size, 2, none⟩ = some (.int .i64 (ns.length : Nat)) := d2
    by_cases hl : 12 < ns.length
    · have hli : (12 : Int) < (ns.length : Int) := by omega
      go_wp2
      go_quiet (fail)
      go_wp2
      go_ret2
      exact ⟨hg.trans (grown_drewN _ _ _), Or.inr (Or.inl ⟨rfl, hl, rfl⟩)⟩
    · have hli : ¬ (12 : Int) < (ns.length : Int) := by omega
      go_wp2
      go_ret2
      refine ⟨hg.trans (grown_alloc _ _ _), Or.inr (Or.inr ⟨rfl, by simp only; omega, w2.heap.size, _, r, rfl, hg.size, heap_alloc_new _ _, rowAt_kept rr (grown_alloc _ _ none) (Or.inl rfl), fun g e => (by have := rb g e; omega), ?_, ?_, RD.out⟩)⟩
      · exact Row.lies_law (fun j h _ => by omega) _ (Row.lies_kept (grown_alloc w2 _ none) (fun _ e => by cases e) _ rl)
      · have := RN.out
        simpa using this.symm
end Go.Proofs.YtdfkjgogdbeokaaGreatDoor
