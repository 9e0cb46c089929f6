/-
  DERIVED. The reference's line at any depth; its Parse.
-/
import Derived.Test.YtdfkjgogdbeokaaGreatDoorRfLoop
import Derived.OwnWalk
namespace Go.Proofs.YtdfkjgogdbeokaaGreatDoor
open Go.RowKit
set_option linter.unusedVariables false

theorem lnGo_fits (s : ByteArray) (S : Nat → List ByteArray → Bool × Nat × List ByteArray) (hS : ∀ p ns, p ≤ s.size → ns.length ≤ p → Fits s (false, p, ns) (S p ns)) (c : UInt8) : ∀ (f : Nat) (first : Bool) (R : Bool × Nat × List ByteArray), R.2.1 ≤ s.size → R.2.2.length ≤ R.2.1 → Fits s R (lnGo S s c f first R) := by
  intro f
  induction f with
  | zero => intro first R h1 h2; exact ⟨Nat.le_refl _, h1, h2⟩
  | succ f ih =>
    intro first R h1 h2
    rw [lnGo]
    split
    · exact ⟨Nat.le_refl _, h1, h2⟩
    · split
      · exact ⟨Nat.le_refl _, h1, h2⟩
      · have he : R.2.1 ≤ (if first then (false, R.2.1) else eatS s 124 (false, R.2.1)).2 ∧ (if first then (false, R.2.1) else eatS s 124 (false, R.2.1)).2 ≤ s.size := by
          split
          · exact ⟨Nat.le_refl _, h1⟩
          · exact eatS_le s 124 (false, R.2.1) h1
        generalize (if first then (false, R.2.1) else eatS s 124 (false, R.2.1)) = E at *
        split
        · refine ⟨he.1, he.2, ?_⟩
          simp only
          omega
        · have a := hS E.2 R.2.2 he.2 (by omega)
          have b := ih false (S E.2 R.2.2) a.2.1 a.2.2
          unfold Fits at *
          simp only at *
          omega
theorem lnF_fits (s : ByteArray) : ∀ (f : Nat) (c : UInt8) (R : Bool × Nat × List ByteArray), R.2.1 ≤ s.size → R.2.2.length ≤ R.2.1 → Fits s R (lnF s f c R) := by
  intro f
  induction f with
  | zero => intro c R h1 h2; exact ⟨Nat.le_refl _, h1, h2⟩
  | succ f ih =>
    intro c R h1 h2
    exact lnGo_fits s (stS s (lnF s f)) (fun p ns a b => (stS_fits s (lnF s f) ih p ns a b).1) c _ _ R h1 h2

/-- line, at any place. -/
theorem line_any (b : Nat) (s : ByteArray) (hs : s.size ≤ 120) : ∀ (f : Nat) (c : UInt8) (ci : Int) (w : World) (nv : Value) (R : Bool × Nat × List ByteArray), ((c.toNat : Nat) : Int) = ci → s.size - R.2.1 < f → R.2.1 ≤ s.size → R.2.2.length ≤ R.2.1 → Rd w b s R.2.1 R.1 nv → Nm w b nv R.2.2 →
    Calls Tryz.prog 44 #[.pointer (some ⟨b, 0, none⟩), .int .u8 ci] w fun e w' => (∃ a n k, e = .returned (.slice a n k)) ∧ RdPost w b s nv (lnF s f c R) w' := by
  intro f
  induction f with
  | zero => intro c ci w nv R _ h; omega
  | succ f ih =>
    intro c ci w nv R hc hf h1 h2 h3 h4
    exact line_step w b s nv c ci hc R h3 h4 h1 hs h2 (lnF s f) (fun c' ci' w' nv' R' e1 e0 e2 e3 e4 e5 e6 => ih c' ci' w' nv' R' e1 (by omega) e3 e4 e5 e6) (lnF_fits s f)

/-- The document's reading of a text. -/
def pR (s : ByteArray) : Bool × Nat × List ByteArray := lnF s (s.size + 1) 0 (false, 0, [])

set_option maxRecDepth 100000 in
set_option maxHeartbeats 1000000 in
theorem ref_long (w : World) (s : ByteArray) (h : 120 < s.size) :
    Calls Tryz.prog 24 #[.string s] w fun e w' => e = .returned (.tuple #[.pointer none, .int .i64 2, .int .i64 0]) ∧ w' = w := by
  have hi : (120 : Int) < (s.size : Int) := by omega
  go_enter Tryz.func24, Tryz.ntmps24
  go_wp2
  go_ret3
  exact ⟨rfl, rfl⟩

/-- What Parse answers at a text that is not too long. -/
def RefPost (w : World) (s : ByteArray) (R : Bool × Nat × List ByteArray) (e : Ending) (w' : World) : Prop :=
  w.grownBy w' none ∧
  ((R.1 = true ∧ e = .returned (.tuple #[.pointer none, .int .i64 1, .int .i64 R.2.1])) ∨
   (R.1 = false ∧ 12 < R.2.2.length ∧ e = .returned (.tuple #[.pointer none, .int .i64 3, .int .i64 0])) ∨
   (R.1 = false ∧ R.2.2.length ≤ 12 ∧ ∃ k lv nv, e = .returned (.tuple #[.pointer (some ⟨k, 0, none⟩), .int .i64 0, .int .i64 0]) ∧ w.heap.size ≤ k ∧
      w'.heap[k]? = some (.cells #[.string s, lv, nv] 52 (0, 0)) ∧ w'.ownsRow (w.heap.size + 1) 9 1 nv R.2.2.length (R.2.2.map Value.string)))

set_option maxRecDepth 100000 in
set_option maxHeartbeats 1000000 in
theorem ref_short (w : World) (s : ByteArray) (h : s.size ≤ 120) :
    Calls Tryz.prog 24 #[.string s] w fun e w' => RefPost w s (pR s) e w' := by
  have hi : ¬ (120 : Int) < (s.size : Int) := by omega
  have hf := lnF_fits s (s.size + 1) 0 (false, 0, []) (by simp) (by simp)
  have hrd : Rd (w.alloc (.cells #[.string s, .int .i64 0, .bool false, .slice none 0 0] 103)) w.heap.size s 0 false (.slice none 0 0) := heap_alloc_new _ _
  have hnm : Nm (w.alloc (.cells #[.string s, .int .i64 0, .bool false, .slice none 0 0] 103)) w.heap.size (.slice none 0 0) [] := World.ownsRow_nil _ _ _ _
  have hln := line_any w.heap.size s h (s.size + 1) 0 0 _ _ (false, 0, []) rfl (by simp) (by simp) (by simp) hrd hnm
  have hpr : lnF s (s.size + 1) 0 (false, 0, []) = pR s := rfl
  rw [hpr] at hln hf
  clear hpr
  generalize pR s = R at *
  obtain ⟨bad, p, ns⟩ := R
  go_enter Tryz.func24, Tryz.ntmps24
  go_wp2_with fail
  refine hln.mono ?_
  rintro e w2 ⟨⟨a, n, k, rfl⟩, nv2, r2, n2, k2⟩
  obtain ⟨ao, cap, rfl⟩ := n2.form
  have hg : w.grownBy w2 none := ⟨k2.os, k2.tape, k2.output, by have := k2.size; simp at this; omega, fun j hj _ => (k2.block j (by simp; omega) (by omega) (by simp [Value.ownBlock])).trans (Below.heap_alloc _ _ _ hj)⟩
  simp only at r2 n2 hf
  obtain ⟨c0, c1, c2, c3, f1, f2, f3⟩ := r2.cells
  clear hln hrd hnm k2
  cases bad with
  | true =>
    go_wp2
    go_quiet (fail)
    go_wp2
    go_ret3
    exact ⟨hg.trans (grown_drewN _ _ _), Or.inl ⟨rfl, rfl⟩⟩
  | false =>
    by_cases hl : 12 < ns.length
    · have hli : (12 : Int) < (ns.length : Int) := by omega
      go_wp2
      go_ret3
      exact ⟨hg, Or.inr (Or.inl ⟨rfl, hl, rfl⟩)⟩
    · have hli : ¬ (12 : Int) < (ns.length : Int) := by omega
      go_wp2
      go_ret3
      exact ⟨hg.trans (grown_alloc _ _ _), Or.inr (Or.inr ⟨rfl, by simp only; omega, w2.heap.size, _, _, rfl, hg.size, heap_alloc_new _ _, World.ownsRow.alloc n2 _⟩)⟩
end Go.Proofs.YtdfkjgogdbeokaaGreatDoor
