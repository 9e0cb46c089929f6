/-
  DERIVED. The reference's Reader: names, and what a step leaves as it was.
-/
import Derived.Test.YtdfkjgogdbeokaaGreatDoorRfHead
import Derived.Deep.AppendLies
import Derived.OwnWalk
namespace Go.Proofs.YtdfkjgogdbeokaaGreatDoor
open Go.RowKit
set_option linter.unusedVariables false

/-- A row of names. -/
def Nm (w : World) (b : Nat) (nv : Value) (ns : List ByteArray) : Prop := w.ownsRow (b + 1) 9 1 nv ns.length (ns.map Value.string)
theorem Nm.form {w : World} {b : Nat} {nv : Value} {ns : List ByteArray} (h : Nm w b nv ns) : ∃ ao cap, nv = .slice ao ns.length cap := by
  rcases h.2 with ⟨rfl, h0⟩ | ⟨g, cap, cur, hv, _⟩
  · exact ⟨none, 0, by rw [h0]⟩
  · exact ⟨_, cap, hv⟩
theorem Nm.far {w : World} {b : Nat} {nv : Value} {ns : List ByteArray} (h : Nm w b nv ns) : nv.ownBlock ≠ some b := by
  intro e
  have := (World.ownsRow.lt h b e).1
  omega
theorem Nm.kept {w w' : World} {b : Nat} {nv : Value} {ns : List ByteArray} (h : Nm w b nv ns) (hg : w.grownBy w' (some b)) : Nm w' b nv ns := World.ownsRow.kept h hg (Or.inr h.far)
theorem Nm.set {w : World} {b : Nat} {nv : Value} {ns : List ByteArray} (h : Nm w b nv ns) (k i : Nat) (v : Value) (hk : nv.ownBlock ≠ some k) : Nm (w.setCell ⟨k, i, none⟩ v) b nv ns :=
  World.ownsRow.kept h (grown_set w k i v) (Or.inr hk)

theorem Tryz.infoSt : (Tryz.prog.info? 9).map (fun i => (i.zero, i.size, i.bytes)) = some (some (.string ⟨#[]⟩), 1, 16) := by kernel_rfl
theorem Tryz.infoRS : (Tryz.prog.info? 116).map (fun i => (i.zero, i.size, i.bytes)) = some (some (.agg #[.string ⟨#[]⟩, .int .i64 0, .int .i64 0, .string ⟨#[]⟩, .slice none 0 0, .slice none 0 0]), 6, 96) := by kernel_rfl

theorem rd_app {w x w' : World} {b : Nat} {s : ByteArray} {p : Nat} {bad : Bool} {nv : Value} {row : Option Nat} (h : Rd w b s p bad nv) (hg : x.grownBy w' row) (hx : x.heap[b]? = w.heap[b]?) (hne : row ≠ some b) : Rd w' b s p bad nv := by
  have hl := h.lt
  have hxl : b < x.heap.size := by
    rcases Nat.lt_or_ge b x.heap.size with h1 | h1
    · exact h1
    · rw [Array.getElem?_eq_none h1] at hx
      unfold Rd at h
      rw [← hx] at h; cases h
  exact h.of_block ((hg.block b hxl (Ne.symm hne)).trans hx)

/-- What a step of the Reader leaves as it was: all old blocks but its own and the names'; where the names lie. -/
structure Keeps (w w' : World) (b : Nat) (nv nv' : Value) : Prop where
  os : w'.os = w.os
  tape : w'.tape = w.tape
  output : w'.output = w.output
  size : w.heap.size ≤ w'.heap.size
  block : ∀ k, k < w.heap.size → k ≠ b → nv.ownBlock ≠ some k → w'.heap[k]? = w.heap[k]?
  own : nv'.ownBlock = nv.ownBlock ∨ ∃ g, nv'.ownBlock = some g ∧ w.heap.size ≤ g
theorem Keeps.of_grown {w w' : World} {b : Nat} (nv : Value) (h : w.grownBy w' (some b)) : Keeps w w' b nv nv :=
  ⟨h.os, h.tape, h.output, h.size, fun k hk hb _ => h.block k hk (by simp [hb]), Or.inl rfl⟩
theorem Keeps.trans {w w1 w2 : World} {b : Nat} {nv nv1 nv2 : Value} (h : Keeps w w1 b nv nv1) (k : Keeps w1 w2 b nv1 nv2) : Keeps w w2 b nv nv2 := by
  refine ⟨k.os.trans h.os, k.tape.trans h.tape, k.output.trans h.output, Nat.le_trans h.size k.size, fun i hi hb hn => ?_, ?_⟩
  · refine (k.block i (Nat.lt_of_lt_of_le hi h.size) hb ?_).trans (h.block i hi hb hn)
    rcases h.own with e | ⟨g, e, hg⟩
    · rw [e]; exact hn
    · rw [e]; intro e2; cases e2; omega
  · rcases k.own with e | ⟨g, e, hg⟩
    · rw [e]; exact h.own
    · exact Or.inr ⟨g, e, Nat.le_trans h.size hg⟩
theorem Keeps.step {w w1 w2 : World} {b : Nat} {nv nv1 : Value} (h : Keeps w w1 b nv nv1) (k : w1.grownBy w2 (some b)) : Keeps w w2 b nv nv1 := h.trans (Keeps.of_grown _ k)
theorem Keeps.set {w w1 : World} {b : Nat} {nv nv1 : Value} (h : Keeps w w1 b nv nv1) (k i : Nat) (v : Value) (hk : w.heap.size ≤ k) : Keeps w (w1.setCell ⟨k, i, none⟩ v) b nv nv1 := by
  have g := grown_set w1 k i v
  exact ⟨g.os.trans h.os, g.tape.trans h.tape, g.output.trans h.output, Nat.le_trans h.size g.size, fun j hj hb hn => (g.block j (Nat.lt_of_lt_of_le hj h.size) (by intro e; cases e; omega)).trans (h.block j hj hb hn), h.own⟩
theorem Keeps.alloc {w w1 : World} {b : Nat} {nv nv1 : Value} (h : Keeps w w1 b nv nv1) (o : Obj) : Keeps w (w1.alloc o) b nv nv1 := h.step (grown_alloc _ _ _)
theorem Keeps.at {w w1 : World} {b k : Nat} {nv nv1 : Value} {o : Obj} (h : Keeps w w1 b nv nv1) (hk : w.heap[k]? = some o) (hb : k ≠ b) (hn : nv.ownBlock ≠ some k) : w1.heap[k]? = some o := by
  have hl : k < w.heap.size := by
    rcases Nat.lt_or_ge k w.heap.size with h1 | h1
    · exact h1
    · rw [Array.getElem?_eq_none h1] at hk; cases hk
  rw [h.block k hl hb hn]; exact hk
/-- The names' row lies elsewhere than a block that was there ahead of it. -/
theorem Keeps.apart {w w1 : World} {b k : Nat} {nv nv1 : Value} (h : Keeps w w1 b nv nv1) (hn : nv.ownBlock ≠ some k) (hl : k < w.heap.size) : nv1.ownBlock ≠ some k := by
  rcases h.own with e | ⟨g, e, hg⟩
  · rw [e]; exact hn
  · rw [e]; intro e2; cases e2; omega

/-- Behind the append of a name. -/
theorem stg_app {w w2 w4 x w5 : World} {b : Nat} {s : ByteArray} {q : Nat} {nv : Value} {ns : List ByteArray} {nm : ByteArray} {g cap : Nat} {O0 O1 : Obj}
    (hn : Nm w b nv ns) (hlt : b < w.heap.size) (hgr : (w.alloc O0).grownBy w2 (some b)) (hW4 : w2.alloc O1 = w4) (hrd : Rd w4 b s q false nv)
    (hgrow : x.grownBy w5 nv.ownBlock) (hx : w4.grownBy x none)
    (hown : w5.ownsRow (b + 1) 9 1 (.slice (some ⟨g, 0, none⟩) (ns.length + 1) cap) (ns.length + 1) (ns.map Value.string ++ [.string nm]))
    (hat : nv.ownBlock = some g ∨ g = w2.heap.size + 2) :
    Rd (w5.setCell ⟨b, 3, none⟩ (.slice (some ⟨g, 0, none⟩) (ns.length + 1) cap)) b s q false (.slice (some ⟨g, 0, none⟩) (ns.length + 1) cap) ∧
    Nm (w5.setCell ⟨b, 3, none⟩ (.slice (some ⟨g, 0, none⟩) (ns.length + 1) cap)) b (.slice (some ⟨g, 0, none⟩) (ns.length + 1) cap) (ns ++ [nm]) ∧
    (w5.setCell ⟨b, 3, none⟩ (.slice (some ⟨g, 0, none⟩) (ns.length + 1) cap)).heap[w2.heap.size]? = some O1 ∧
    (w5.setCell ⟨b, 3, none⟩ (.slice (some ⟨g, 0, none⟩) (ns.length + 1) cap)).heap[w.heap.size]? = some O0 ∧
    Keeps w (w5.setCell ⟨b, 3, none⟩ (.slice (some ⟨g, 0, none⟩) (ns.length + 1) cap)) b nv (.slice (some ⟨g, 0, none⟩) (ns.length + 1) cap) ∧ w.heap.size < w2.heap.size ∧ g ≠ w.heap.size ∧ g ≠ w2.heap.size := by
  have hs2 : w.heap.size < w2.heap.size := by have := hgr.size; simp at this; omega
  have hs4 : w4.heap.size = w2.heap.size + 1 := by rw [← hW4]; simp
  have hfar := hn.far
  have hnlt : ∀ k, nv.ownBlock = some k → k < w.heap.size := fun k e => (World.ownsRow.lt hn k e).2
  have hgb : g ≠ b := by
    rcases hat with e | e
    · intro e2; rw [e2] at e; exact hfar e
    · omega
  have hfx : nv.ownBlock ≠ some w2.heap.size := fun e => by have := hnlt _ e; omega
  have hfr : nv.ownBlock ≠ some w.heap.size := fun e => by have := hnlt _ e; omega
  have hblk : ∀ k, k < w.heap.size + 1 → k ≠ b → nv.ownBlock ≠ some k → w5.heap[k]? = (w.alloc O0).heap[k]? := fun k hk hb he => by
    have l4 : k < w4.heap.size := by omega
    rw [hgrow.block k (Nat.lt_of_lt_of_le l4 hx.size) (Ne.symm he), hx.block k l4 (by simp), ← hW4, Below.heap_alloc _ _ _ (by omega), hgr.block k (by simpa using hk) (by simpa using hb)]
  have hset : ∀ (v : Value) k, k ≠ b → (w5.setCell ⟨b, 3, none⟩ v).heap[k]? = w5.heap[k]? := fun v k hk => Below.heap_setCell _ _ _ _ (by exact fun e => hk e)
  have r5 : Rd w5 b s q false nv := rd_app hrd hgrow (hx.block b hrd.lt (by simp)) hfar
  refine ⟨r5.setN _, ?_, ?_, ?_, ⟨?_, ?_, ?_, ?_, ?_, ?_⟩, hs2, ?_, ?_⟩
  · have hl : (ns ++ [nm]).length = ns.length + 1 := by simp
    unfold Nm
    rw [hl, List.map_append]
    exact World.ownsRow.kept hown (grown_set _ _ _ _) (Or.inr (by simpa [Value.ownBlock] using hgb))
  · rw [hset _ _ (by omega), hgrow.block _ (Nat.lt_of_lt_of_le (by omega : w2.heap.size < w4.heap.size) hx.size) (Ne.symm hfx), hx.block _ (by omega) (by simp), ← hW4]
    exact heap_alloc_new _ _
  · rw [hset _ _ (by omega), hblk _ (by omega) (by omega) hfr]
    exact heap_alloc_new _ _
  · show w5.os = _
    rw [hgrow.os, hx.os, ← hW4]; exact hgr.os
  · show w5.tape = _
    rw [hgrow.tape, hx.tape, ← hW4]; exact hgr.tape
  · show w5.output = _
    rw [hgrow.output, hx.output, ← hW4]; exact hgr.output
  · have := hgrow.size
    have := hx.size
    simp [World.setCell]
    omega
  · intro k hk hb he
    rw [hset _ _ hb, hblk k (by omega) hb he]
    exact Below.heap_alloc _ _ _ hk
  · rcases hat with e | e
    · exact Or.inl e.symm
    · exact Or.inr ⟨g, rfl, by omega⟩
  · rcases hat with e | e
    · have := hnlt _ e; omega
    · omega
  · rcases hat with e | e
    · have := hnlt _ e; omega
    · omega

/-- What stage and line leave: is it none?, the place, the names. -/
def RdPost (w : World) (b : Nat) (s : ByteArray) (nv : Value) (R : Bool × Nat × List ByteArray) (w' : World) : Prop :=
  ∃ nv', Rd w' b s R.2.1 R.1 nv' ∧ Nm w' b nv' R.2.2 ∧ Keeps w w' b nv nv'
/-- A stage, as a value. -/
def StgV (e : Ending) : Prop := ∃ (nm : ByteArray) (n k : Int) (hw : ByteArray) (a1 : Option Addr) (n1 c1 : Nat) (a2 : Option Addr) (n2 c2 : Nat), e = .returned (.agg #[.string nm, .int .i64 n, .int .i64 k, .string hw, .slice a1 n1 c1, .slice a2 n2 c2])
theorem Tryz.sizeRS : (Tryz.prog.info? 116).map (·.size) = some 6 := by kernel_rfl

/-- The last store: the stage into the result's cell. -/
theorem six_end {w w6 : World} {b k : Nat} {s : ByteArray} {nv nv6 : Value} {R : Bool × Nat × List ByteArray} {t : TypeId} {o0 o1 o2 o3 o4 o5 : Value} (v0 v1 v2 v3 v4 v5 : Value)
    (y6 : w6.heap[k]? = some (.cells #[o0, o1, o2, o3, o4, o5] t (0, 0))) (r6 : Rd w6 b s R.2.1 R.1 nv6) (n6 : Nm w6 b nv6 R.2.2) (kp6 : Keeps w w6 b nv nv6) (hk : w.heap.size ≤ k) (hb : k ≠ b) (ho : nv6.ownBlock ≠ some k) :
    ((((((w6.setCell ⟨k, 0, none⟩ v0).setCell ⟨k, 1, none⟩ v1).setCell ⟨k, 2, none⟩ v2).setCell ⟨k, 3, none⟩ v3).setCell ⟨k, 4, none⟩ v4).setCell ⟨k, 5, none⟩ v5).heap[k]? = some (.cells #[v0, v1, v2, v3, v4, v5] t (0, 0)) ∧
    RdPost w b s nv R ((((((w6.setCell ⟨k, 0, none⟩ v0).setCell ⟨k, 1, none⟩ v1).setCell ⟨k, 2, none⟩ v2).setCell ⟨k, 3, none⟩ v3).setCell ⟨k, 4, none⟩ v4).setCell ⟨k, 5, none⟩ v5) := by
  refine ⟨?_, nv6, ?_, ?_, ?_⟩
  · rw [setCell_block (setCell_block (setCell_block (setCell_block (setCell_block (setCell_block y6 v0) v1) v2) v3) v4) v5]
    rfl
  · have e : ∀ (x : World) (i : Nat) (v : Value), Rd x b s R.2.1 R.1 nv6 → Rd (x.setCell ⟨k, i, none⟩ v) b s R.2.1 R.1 nv6 := fun x i v h => h.of_block (Below.heap_setCell _ _ _ _ (by exact fun e => hb e.symm))
    exact e _ _ _ (e _ _ _ (e _ _ _ (e _ _ _ (e _ _ _ (e _ _ _ r6)))))
  · exact (((((n6.set k 0 v0 ho).set k 1 v1 ho).set k 2 v2 ho).set k 3 v3 ho).set k 4 v4 ho).set k 5 v5 ho
  · exact (((((kp6.set k 0 v0 hk).set k 1 v1 hk).set k 2 v2 hk).set k 3 v3 hk).set k 4 v4 hk).set k 5 v5 hk
end Go.Proofs.YtdfkjgogdbeokaaGreatDoor
