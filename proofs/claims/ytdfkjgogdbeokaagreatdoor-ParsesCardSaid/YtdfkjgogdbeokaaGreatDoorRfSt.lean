/-
  DERIVED. The reference's stage: the state within it.
-/
import Derived.Test.YtdfkjgogdbeokaaGreatDoorRfBnd
namespace Go.Proofs.YtdfkjgogdbeokaaGreatDoor
open Go.RowKit
set_option linter.unusedVariables false

/-- eat: a place that is none, or the place. -/
def eatS (s : ByteArray) (c : UInt8) (st : Bool × Nat) : Bool × Nat := if (!st.1 && isAt s st.2 c) = true then (false, st.2 + 1) else (true, st.2)
theorem eat_any (w : World) (b : Nat) (s : ByteArray) (p : Nat) (bad : Bool) (nv : Value) (c : UInt8) (ci : Int) (hc : ((c.toNat : Nat) : Int) = ci) (h : Rd w b s p bad nv) (hps : p ≤ 1000) :
    Calls Tryz.prog 70 #[.pointer (some ⟨b, 0, none⟩), .int .u8 ci] w fun e w' => e = .returned (.tuple #[]) ∧ Rd w' b s (eatS s c (bad, p)).2 (eatS s c (bad, p)).1 nv ∧ w.grownBy w' (some b) := by
  unfold eatS
  cases hb : (!bad && isAt s p c)
  · rw [if_neg (by simp)]
    exact eat_no w b s p bad nv c ci hc h hb
  · rw [if_pos rfl]
    cases bad
    · exact eat_yes w b s p nv c ci hc h (by simpa using hb) hps
    · simp at hb
theorem eatS_le (s : ByteArray) (c : UInt8) (st : Bool × Nat) (h : st.2 ≤ s.size) : st.2 ≤ (eatS s c st).2 ∧ (eatS s c st).2 ≤ s.size := by
  unfold eatS
  cases hb : (!st.1 && isAt s st.2 c)
  · rw [if_neg (by simp)]; exact ⟨Nat.le_refl _, h⟩
  · rw [if_pos rfl]
    have : isAt s st.2 c = true := by
      simp only [Bool.and_eq_true] at hb
      exact hb.2
    have := isAt_size this
    exact ⟨Nat.le_succ _, this⟩

theorem digs_le (s : ByteArray) (hi : Int) : ∀ (f : Nat) (n : Int) (p : Nat), p ≤ s.size → p ≤ digs s hi f n p ∧ digs s hi f n p ≤ s.size := by
  intro f
  induction f with
  | zero => intro n p h; exact ⟨Nat.le_refl _, h⟩
  | succ f ih =>
    intro n p h
    unfold digs
    split
    · exact ⟨Nat.le_refl _, h⟩
    · rename_i hc
      have hp : p < s.size := dg_lt (by omega)
      have := ih (10 * n + dg s p) (p + 1) hp
      exact ⟨by omega, this.2⟩
theorem numSpec_le (s : ByteArray) (lo hi : Int) (p : Nat) (h : p ≤ s.size) : p ≤ (numSpec s lo hi p).2 ∧ (numSpec s lo hi p).2 ≤ s.size := by
  have ha : p ≤ numAt s lo p ∧ numAt s lo p ≤ s.size := by
    unfold numAt
    split
    · rename_i hn
      unfold numNeg at hn
      simp only [Bool.and_eq_true] at hn
      have := isAt_size hn.1
      exact ⟨Nat.le_succ _, this⟩
    · exact ⟨Nat.le_refl _, h⟩
  unfold numSpec
  split
  · exact ha
  · rename_i hc
    have hp : numAt s lo p < s.size := dg_lt (by omega)
    have := digs_le s hi (s.size - (numAt s lo p + 1)) (dg s (numAt s lo p)) (numAt s lo p + 1) hp
    unfold numEnd digsAt
    exact ⟨by simp only; omega, this.2⟩

/-- The state within stage. -/
structure St (w wi : World) (b x : Nat) (s : ByteArray) (nv nvi : Value) (R : Bool × Nat × List ByteArray) (cs : Array Value) : Prop where
  rd : Rd wi b s R.2.1 R.1 nvi
  nm : Nm wi b nvi R.2.2
  kp : Keeps w wi b nv nvi
  xb : wi.heap[x]? = some (.cells cs 116 (0, 0))
  yb : wi.heap[w.heap.size]? = some (.cells #[.string ⟨#[]⟩, .int .i64 0, .int .i64 0, .string ⟨#[]⟩, .slice none 0 0, .slice none 0 0] 116 (0, 0))
  xl : w.heap.size < x
  bl : b < w.heap.size
  ax : nvi.ownBlock ≠ some x
  ay : nvi.ownBlock ≠ some w.heap.size
theorem St.eat {w wi wj : World} {b x : Nat} {s : ByteArray} {nv nvi : Value} {R : Bool × Nat × List ByteArray} {cs : Array Value} (h : St w wi b x s nv nvi R cs) (N : Bool × Nat) (r : Rd wj b s N.2 N.1 nvi) (g : wi.grownBy wj (some b)) : St w wj b x s nv nvi (N.1, N.2, R.2.2) cs := by
  have hx := h.xl
  have hb := h.bl
  exact ⟨r, h.nm.kept g, h.kp.step g, (g.block x (lt_of_heap h.xb) (by simp; omega)).trans h.xb, (g.block w.heap.size (lt_of_heap h.yb) (by simp; omega)).trans h.yb, hx, hb, h.ax, h.ay⟩
theorem St.put {w wi : World} {b x : Nat} {s : ByteArray} {nv nvi : Value} {R : Bool × Nat × List ByteArray} {cs : Array Value} (h : St w wi b x s nv nvi R cs) (i : Nat) (v : Value) : St w (wi.setCell ⟨x, i, none⟩ v) b x s nv nvi R (cs.setIfInBounds i v) := by
  have hx := h.xl
  have hb := h.bl
  exact ⟨h.rd.of_block (Below.heap_setCell _ _ _ _ (by exact fun e => by have : b = x := e; omega)), h.nm.set x i v h.ax, h.kp.set x i v (by omega), setCell_block h.xb v, (Below.heap_setCell _ _ _ _ (by exact fun e => by have : w.heap.size = x := e; omega)).trans h.yb, hx, hb, h.ax, h.ay⟩
theorem St.line {w wi wj : World} {b x : Nat} {s : ByteArray} {nv nvi : Value} {R R' : Bool × Nat × List ByteArray} {cs : Array Value} (h : St w wi b x s nv nvi R cs) (p : RdPost wi b s nvi R' wj) : ∃ nvj, St w wj b x s nv nvj R' cs := by
  obtain ⟨nvj, r, n, k⟩ := p
  have hx := h.xl
  have hb := h.bl
  exact ⟨nvj, r, n, h.kp.trans k, k.at h.xb (by omega) h.ax, k.at h.yb (by omega) h.ay, hx, hb, k.apart h.ax (lt_of_heap h.xb), k.apart h.ay (lt_of_heap h.yb)⟩
theorem St.ends {w wi : World} {b x : Nat} {s : ByteArray} {nv nvi : Value} {R : Bool × Nat × List ByteArray} {cs : Array Value} (h : St w wi b x s nv nvi R cs) (v0 v1 v2 v3 v4 v5 : Value) :
    ((((((wi.setCell ⟨w.heap.size, 0, none⟩ v0).setCell ⟨w.heap.size, 1, none⟩ v1).setCell ⟨w.heap.size, 2, none⟩ v2).setCell ⟨w.heap.size, 3, none⟩ v3).setCell ⟨w.heap.size, 4, none⟩ v4).setCell ⟨w.heap.size, 5, none⟩ v5).heap[w.heap.size]? = some (.cells #[v0, v1, v2, v3, v4, v5] 116 (0, 0)) ∧
    RdPost w b s nv R ((((((wi.setCell ⟨w.heap.size, 0, none⟩ v0).setCell ⟨w.heap.size, 1, none⟩ v1).setCell ⟨w.heap.size, 2, none⟩ v2).setCell ⟨w.heap.size, 3, none⟩ v3).setCell ⟨w.heap.size, 4, none⟩ v4).setCell ⟨w.heap.size, 5, none⟩ v5) :=
  six_end v0 v1 v2 v3 v4 v5 h.yb h.rd h.nm h.kp (Nat.le_refl _) (by have := h.bl; omega) h.ay
theorem St.cell {w wi : World} {b x : Nat} {s : ByteArray} {nv nvi : Value} {R : Bool × Nat × List ByteArray} {cs : Array Value} (h : St w wi b x s nv nvi R cs) (i : Nat) : wi.cell? ⟨x, i, none⟩ = cs[i]? ∧ wi.frozen? ⟨x, i, none⟩ = false := by
  simp [World.cell?, World.frozen?, h.xb]
theorem St.rcells {w wi : World} {b x : Nat} {s : ByteArray} {nv nvi : Value} {R : Bool × Nat × List ByteArray} {cs : Array Value} (h : St w wi b x s nv nvi R cs) :
    (wi.cell? ⟨w.heap.size, 0, none⟩ = some (.string ⟨#[]⟩) ∧ wi.cell? ⟨w.heap.size, 1, none⟩ = some (.int .i64 0) ∧ wi.cell? ⟨w.heap.size, 2, none⟩ = some (.int .i64 0) ∧ wi.cell? ⟨w.heap.size, 3, none⟩ = some (.string ⟨#[]⟩) ∧ wi.cell? ⟨w.heap.size, 4, none⟩ = some (.slice none 0 0) ∧ wi.cell? ⟨w.heap.size, 5, none⟩ = some (.slice none 0 0)) ∧
    (wi.frozen? ⟨w.heap.size, 0, none⟩ = false ∧ wi.frozen? ⟨w.heap.size, 1, none⟩ = false ∧ wi.frozen? ⟨w.heap.size, 2, none⟩ = false ∧ wi.frozen? ⟨w.heap.size, 3, none⟩ = false ∧ wi.frozen? ⟨w.heap.size, 4, none⟩ = false ∧ wi.frozen? ⟨w.heap.size, 5, none⟩ = false) := by
  simp [World.cell?, World.frozen?, h.yb]
/-- How far a beginning goes. -/
theorem ext_size {s hd : ByteArray} {p q : Nat} (h : s.extract p q = hd) (hq : q ≤ s.size) : q - p = hd.size := by
  rw [← h, ByteArray.size_extract]
  omega
end Go.Proofs.YtdfkjgogdbeokaaGreatDoor
