/-
  DERIVED. What the code's stage and line leave.
-/
import Derived.Test.YtdfkjgogdbeokaaGreatDoorCdRow
import Derived.Test.YtdfkjgogdbeokaaGreatDoorCdTab
namespace Go.Proofs.YtdfkjgogdbeokaaGreatDoor
open Go.RowKit
set_option linter.unusedVariables false

abbrev Rs := Bool × Nat × List ByteArray
/-- The place behind the closing byte. -/
def clo (R : Rs) : Nat := if R.1 = true then R.2.1 else R.2.1 + 1
def clP (c : UInt8) (R : Rs) : Nat := if c = 0 then R.2.1 else clo R

/-- A stage has been read, or none. -/
def StgPost (w : World) (b : Nat) (s : ByteArray) (ns : List ByteArray) (R : Rs) (e : Ending) (w' : World) : Prop :=
  ∃ v, e = .returned (.tuple #[v, .bool (!R.1)]) ∧ w.grownBy w' (some b) ∧ ∃ k', Cr w' b s R.2.1 k' ∧
    (R.1 = false → k' = R.2.2.length ∧ ∃ r : Row, r.vals = [v] ∧ r.lies w' (fun j => w.heap.size ≤ j) ∧ R.2.2 = ns ++ r.names ∧ r.numd ns.length)
/-- A line has been read, with its closing byte, or none. -/
def LinePost (w : World) (b : Nat) (s : ByteArray) (ns : List ByteArray) (c : UInt8) (R : Rs) (e : Ending) (w' : World) : Prop :=
  ∃ v, e = .returned (.tuple #[v, .bool (!R.1)]) ∧ w.grownBy w' (some b) ∧ (∃ ao n cap, v = .slice ao n cap) ∧ ∃ k', Cr w' b s (clP c R) k' ∧
    (R.1 = false → k' = R.2.2.length ∧ ∃ r : Row, RowAt w' v r.vals ∧ (∀ g, v.ownBlock = some g → w.heap.size ≤ g) ∧ r.lies w' (fun j => w.heap.size ≤ j) ∧ R.2.2 = ns ++ r.names ∧ r.numd ns.length)
/-- line, behind a place. -/
def LineOk (b : Nat) (s : ByteArray) (p0 : Nat) (L : UInt8 → Rs → Rs) : Prop :=
  ∀ (c : UInt8) (ci : Int) (w : World) (p : Nat) (ns : List ByteArray), ((c.toNat : Nat) : Int) = ci → c ≠ 0 → p0 < p → p ≤ s.size → ns.length ≤ p → PatG w → Cr w b s p ns.length →
    Calls Tryz.prog 74 #[.pointer (some ⟨b, 0, none⟩), .int .u8 ci] w fun e w' => LinePost w b s ns c (L c (false, p, ns)) e w'

theorem numd_cons {i : Nat} {nm : ByteArray} {v : Value} {l : List (ByteArray × Nat × Value)} (h : l.map (·.2.1) = List.range' (i + 1) l.length) : ((nm, i, v) :: l).map (·.2.1) = List.range' i (l.length + 1) := by
  rw [List.map_cons, h, List.range'_succ]
theorem one_stg {w w' : World} {t : TypeId} {j : Nat} {nm : ByteArray} {i : Nat} {x : Value} {tt : TypeId} (ht : t = 217 ∨ t = 237 ∨ t = 217) (hj : w.heap.size ≤ j) (hb : w'.heap[j]? = some (.cells #[.string nm, .int .i64 i, x] tt (0, 0))) :
    ∃ r : Row, r.vals = [stV t j] ∧ r.lies w' (fun j => w.heap.size ≤ j) ∧ r.names = [nm] ∧ r.numd i := by
  refine ⟨.one t j nm i .nil, rfl, ⟨⟨hj, ht, x, tt, hb⟩, trivial⟩, rfl, ?_⟩
  unfold Row.numd
  rfl
end Go.Proofs.YtdfkjgogdbeokaaGreatDoor
