/-
  DERIVED. A row of the code's stages, as it lies in memory.
-/
import Derived.Test.YtdfkjgogdbeokaaGreatDoorCdBase
import Derived.Deep.AppendLies
import Derived.OwnWalk
namespace Go.Proofs.YtdfkjgogdbeokaaGreatDoor
open Go.RowKit
set_option linter.unusedVariables false

/-- A row: the stages' types and blocks, their names and numbers, what stands in their brackets. -/
inductive Row where
  | nil : Row
  | one (t : TypeId) (k : Nat) (nm : ByteArray) (i : Nat) (rest : Row) : Row
  | two (k : Nat) (nm : ByteArray) (i : Nat) (v1 v2 : Value) (a b : Row) (rest : Row) : Row
  | par (k : Nat) (nm : ByteArray) (i : Nat) (v1 : Value) (a : Row) (rest : Row) : Row
def stV (t : TypeId) (k : Nat) : Value := .iface t (.pointer (some ⟨k, 0, none⟩))
def Row.vals : Row → List Value
  | .nil => []
  | .one t k _ _ r => stV t k :: r.vals
  | .two k _ _ _ _ _ _ r => stV 159 k :: r.vals
  | .par k _ _ _ _ r => stV 164 k :: r.vals
/-- All of them by their numbers. -/
def Row.flat : Row → List (ByteArray × Nat × Value)
  | .nil => []
  | .one t k nm i r => (nm, i, stV t k) :: r.flat
  | .two k nm i _ _ a b r => (nm, i, stV 159 k) :: (a.flat ++ (b.flat ++ r.flat))
  | .par k nm i _ a r => (nm, i, stV 164 k) :: (a.flat ++ r.flat)
def Row.names (r : Row) : List ByteArray := r.flat.map (·.1)
def Row.app : Row → Row → Row
  | .nil, x => x
  | .one t k nm i r, x => .one t k nm i (r.app x)
  | .two k nm i v1 v2 a b r, x => .two k nm i v1 v2 a b (r.app x)
  | .par k nm i v1 a r, x => .par k nm i v1 a (r.app x)
theorem Row.vals_app (r x : Row) : (r.app x).vals = r.vals ++ x.vals := by
  induction r with
  | nil => rfl
  | one t k nm i r ih => simp [Row.app, Row.vals, ih]
  | two k nm i v1 v2 a b r _ _ ih => simp [Row.app, Row.vals, ih]
  | par k nm i v1 a r _ ih => simp [Row.app, Row.vals, ih]
theorem Row.flat_app (r x : Row) : (r.app x).flat = r.flat ++ x.flat := by
  induction r with
  | nil => rfl
  | one t k nm i r ih => simp [Row.app, Row.flat, ih]
  | two k nm i v1 v2 a b r _ _ ih => simp [Row.app, Row.flat, ih]
  | par k nm i v1 a r _ ih => simp [Row.app, Row.flat, ih]
theorem Row.names_app (r x : Row) : (r.app x).names = r.names ++ x.names := by simp [Row.names, Row.flat_app]
/-- Numbered from k on. -/
def Row.numd (r : Row) (k : Nat) : Prop := r.flat.map (·.2.1) = List.range' k r.flat.length
theorem Row.numd_app {r x : Row} {k : Nat} (h : r.numd k) (g : x.numd (k + r.names.length)) : (r.app x).numd k := by
  unfold Row.numd at *
  rw [Row.flat_app, List.map_append, h, g, List.length_append]
  have : r.names.length = r.flat.length := by simp [Row.names]
  rw [this]
  exact List.range'_append_1

/-- Where a list of stages lies. -/
def RowAt (w : World) (v : Value) (vs : List Value) : Prop := w.ownsRow 0 94 1 v vs.length vs
/-- Each stage in its block; A: a law of all blocks. -/
def Row.lies (w : World) (A : Nat → Prop) : Row → Prop
  | .nil => True
  | .one t k nm i r => (A k ∧ (t = 217 ∨ t = 237 ∨ t = 217) ∧ ∃ x tt, w.heap[k]? = some (.cells #[.string nm, .int .i64 i, x] tt (0, 0))) ∧ r.lies w A
  | .two k nm i v1 v2 a b r => (A k ∧ w.heap[k]? = some (.cells #[.string nm, .int .i64 i, v1, v2] 163 (0, 0))) ∧
      (RowAt w v1 a.vals ∧ ∀ g, v1.ownBlock = some g → A g) ∧ (RowAt w v2 b.vals ∧ ∀ g, v2.ownBlock = some g → A g) ∧ a.lies w A ∧ b.lies w A ∧ r.lies w A
  | .par k nm i v1 a r => (A k ∧ ∃ x, w.heap[k]? = some (.cells #[.string nm, .int .i64 i, x, v1] 166 (0, 0))) ∧
      (RowAt w v1 a.vals ∧ ∀ g, v1.ownBlock = some g → A g) ∧ a.lies w A ∧ r.lies w A
theorem lt_of_some {w : World} {k : Nat} {o : Obj} (h : w.heap[k]? = some o) : k < w.heap.size := by
  rcases Nat.lt_or_ge k w.heap.size with h1 | h1
  · exact h1
  · rw [Array.getElem?_eq_none h1] at h; cases h
theorem rowAt_kept {w w' : World} {j : Option Nat} {v : Value} {vs : List Value} (h : RowAt w v vs) (hg : w.grownBy w' j) (hj : j = none ∨ v.ownBlock ≠ j) : RowAt w' v vs := by
  rcases hj with rfl | hj
  · exact World.ownsRow.kept h hg (by
      cases e : v.ownBlock with
      | none => exact Or.inl rfl
      | some g => exact Or.inr (by simp))
  · exact World.ownsRow.kept h hg (Or.inr hj)
theorem Row.lies_kept {w w' : World} {A : Nat → Prop} {j : Option Nat} (hg : w.grownBy w' j) (hj : ∀ k, j = some k → ¬ A k) : ∀ r : Row, r.lies w A → r.lies w' A := by
  have blk : ∀ k o, A k → w.heap[k]? = some o → w'.heap[k]? = some o := fun k o ha ho => by
    rw [hg.block k (lt_of_some ho) (fun e => hj k e.symm ha)]; exact ho
  have row : ∀ v vs, RowAt w v vs → (∀ g, v.ownBlock = some g → A g) → RowAt w' v vs := fun v vs h ha => by
    refine rowAt_kept h hg ?_
    cases j with
    | none => exact Or.inl rfl
    | some k => exact Or.inr (fun e => hj k rfl (ha k e))
  intro r
  induction r with
  | nil => intro _; trivial
  | one t k nm i r ih => rintro ⟨⟨h1, h2, x, tt, h3⟩, h4⟩; exact ⟨⟨h1, h2, x, tt, blk _ _ h1 h3⟩, ih h4⟩
  | two k nm i v1 v2 a b r ia ib ih => rintro ⟨⟨h1, h2⟩, ⟨h3, h4⟩, ⟨h5, h6⟩, h7, h8, h9⟩; exact ⟨⟨h1, blk _ _ h1 h2⟩, ⟨row _ _ h3 h4, h4⟩, ⟨row _ _ h5 h6, h6⟩, ia h7, ib h8, ih h9⟩
  | par k nm i v1 a r ia ih => rintro ⟨⟨h1, x, h2⟩, ⟨h3, h4⟩, h7, h9⟩; exact ⟨⟨h1, x, blk _ _ h1 h2⟩, ⟨row _ _ h3 h4, h4⟩, ia h7, ih h9⟩
theorem rowAt_lt {w : World} {v : Value} {vs : List Value} (h : RowAt w v vs) {g : Nat} (e : v.ownBlock = some g) : g < w.heap.size := (World.ownsRow.lt h g e).2
/-- Another law of the blocks. -/
theorem Row.lies_law {w : World} {A B : Nat → Prop} (h : ∀ k, A k → k < w.heap.size → B k) : ∀ r : Row, r.lies w A → r.lies w B := by
  intro r
  induction r with
  | nil => intro _; trivial
  | one t k nm i r ih => rintro ⟨⟨h1, h2, x, tt, h3⟩, h4⟩; exact ⟨⟨h _ h1 (lt_of_some h3), h2, x, tt, h3⟩, ih h4⟩
  | two k nm i v1 v2 a b r ia ib ih => rintro ⟨⟨h1, h2⟩, ⟨h3, h4⟩, ⟨h5, h6⟩, h7, h8, h9⟩; exact ⟨⟨h _ h1 (lt_of_some h2), h2⟩, ⟨h3, fun g e => h _ (h4 g e) (rowAt_lt h3 e)⟩, ⟨h5, fun g e => h _ (h6 g e) (rowAt_lt h5 e)⟩, ia h7, ib h8, ih h9⟩
  | par k nm i v1 a r ia ih => rintro ⟨⟨h1, x, h2⟩, ⟨h3, h4⟩, h7, h9⟩; exact ⟨⟨h _ h1 (lt_of_some h2), x, h2⟩, ⟨h3, fun g e => h _ (h4 g e) (rowAt_lt h3 e)⟩, ia h7, ih h9⟩
theorem Row.lies_app {w : World} {A : Nat → Prop} {x : Row} (hx : x.lies w A) : ∀ r : Row, r.lies w A → (r.app x).lies w A := by
  intro r
  induction r with
  | nil => intro _; exact hx
  | one t k nm i r ih => rintro ⟨h1, h4⟩; exact ⟨h1, ih h4⟩
  | two k nm i v1 v2 a b r ia ib ih => rintro ⟨h1, h2, h3, h7, h8, h9⟩; exact ⟨h1, h2, h3, h7, h8, ih h9⟩
  | par k nm i v1 a r ia ih => rintro ⟨h1, h2, h7, h9⟩; exact ⟨h1, h2, h7, ih h9⟩
end Go.Proofs.YtdfkjgogdbeokaaGreatDoor
