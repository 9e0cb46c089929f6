/-
  DERIVED. Items in memory: five cells each; slices that are read.
-/
import Derived.Test.YtfjdogpjckipbaaGreatDoorProg
import Derived.WalkKit
import Derived.WalkSpells
import Derived.WalkLawsBesides
import Derived.KernelRfl
namespace Go.Proofs.YtfjdogpjckipbaaGreatDoor
open Go.RowKit

theorem bcell' {W w1 : World} (hb : Below W.heap.size W w1) : (∀ b o, b < W.heap.size → w1.cell? ⟨b, o, none⟩ = W.cell? ⟨b, o, none⟩) ∧ (∀ b o, b < W.heap.size → w1.frozen? ⟨b, o, none⟩ = W.frozen? ⟨b, o, none⟩) :=
  ⟨fun b o h => hb.cell (p := ⟨b, o, none⟩) h, fun b o h => hb.frozen (p := ⟨b, o, none⟩) h⟩

/-- An item: its kind, number, word, parts. -/
structure It where
  k : Int
  n : Int
  s : ByteArray
  re : Int
  im : Int
/-- Its cells as package flowlineref has it, and as package flow has it. -/
def It.rc (x : It) : List Value := [.int .i64 x.k, .int .i64 x.n, .string x.s, .int .i64 x.re, .int .i64 x.im]
def It.fc (x : It) : List Value := [.int .i64 x.k, .int .i32 x.n, .string x.s, .int .i64 x.re, .int .i64 x.im]

/-- The slice value v, of n elements of sz cells each, reads as the cells cs. -/
def Reads (w : World) (v : Value) (sz n : Nat) (cs : List Value) : Prop :=
  ∃ ap cap, v = .slice ap n cap ∧ cs.length = n * sz ∧ ∀ j u, cs[j]? = some u → ∃ b o, ap = some ⟨b, o, none⟩ ∧ b < w.heap.size ∧ w.cell? ⟨b, o + j, none⟩ = some u

theorem Reads.below {w w' : World} {v : Value} {sz n : Nat} {cs : List Value} (h : Reads w v sz n cs) (hb : Below w.heap.size w w') : Reads w' v sz n cs := by
  obtain ⟨ap, cap, rfl, hl, hc⟩ := h
  refine ⟨ap, cap, rfl, hl, fun j u hj => ?_⟩
  obtain ⟨b, o, rfl, hlt, hcell⟩ := hc j u hj
  exact ⟨b, o, rfl, Nat.lt_of_lt_of_le hlt hb.size, by rw [hb.cell (p := ⟨b, o + j, none⟩) hlt]; exact hcell⟩

theorem Reads.of_owns {w : World} {base : Nat} {e : TypeId} {sz n : Nat} {v : Value} {xs : List Value} (h : w.ownsRow base e sz v n xs) : Reads w v sz n xs := by
  obtain ⟨hl, h | ⟨g, cap, cur, rfl, hg, hh, hn, hm, hs, ht⟩⟩ := h
  · obtain ⟨rfl, rfl⟩ := h
    simp at hl
    subst hl
    exact ⟨none, 0, rfl, by simp, fun j u hj => by simp at hj⟩
  · refine ⟨some ⟨g, 0, none⟩, cap, rfl, hl, fun j u hj => ⟨g, 0, rfl, ?_, ?_⟩⟩
    · rcases Nat.lt_or_ge g w.heap.size with h1 | h1
      · exact h1
      · rw [Array.getElem?_eq_none h1] at hh; cases hh
    · have hj' : j < n * sz := by
        have := (List.getElem?_eq_some_iff.1 hj).1
        omega
      subst ht
      rw [List.getElem?_take_of_lt hj'] at hj
      simp [World.cell?, hh]
      simpa using hj

theorem flat_get {cells : It → List Value} (hc : ∀ x, (cells x).length = 5) : ∀ (xs : List It) (i j : Nat) (x : It), xs[i]? = some x → j < 5 → (xs.flatMap cells)[i * 5 + j]? = (cells x)[j]?
  | [], _, _, _, h, _ => by simp at h
  | y :: ys, 0, j, x, h, hj => by
    simp at h
    subst h
    simp [List.getElem?_append, hc, hj]
  | y :: ys, i + 1, j, x, h, hj => by
    have h' : ys[i]? = some x := by simpa using h
    have := flat_get hc ys i j x h' hj
    rw [List.flatMap_cons, List.getElem?_append_right (by rw [hc]; omega), hc, show (i + 1) * 5 + j - 5 = i * 5 + j from by omega]
    exact this
theorem flat_len {cells : It → List Value} (hc : ∀ x, (cells x).length = 5) (xs : List It) : (xs.flatMap cells).length = xs.length * 5 := by
  induction xs with
  | nil => rfl
  | cons y ys ih => simp [List.flatMap_cons, hc, ih]; omega

/-- The five cells of an element. -/
theorem Reads.five {w : World} {v : Value} {n : Nat} {cells : It → List Value} {xs : List It} (hc : ∀ x, (cells x).length = 5) (h : Reads w v 5 n (xs.flatMap cells)) (i : Nat) (hi : i < xs.length) :
    ∃ b o cap, v = .slice (some ⟨b, o, none⟩) n cap ∧ b < w.heap.size ∧ ∀ j u, j < 5 → (cells xs[i])[j]? = some u → w.cell? ⟨b, o + (i * 5 + j), none⟩ = some u := by
  obtain ⟨ap, cap, rfl, hl, hcell⟩ := h
  have hx : xs[i]? = some xs[i] := List.getElem?_eq_getElem hi
  have h0 : (xs.flatMap cells)[i * 5 + 0]? = some ((cells xs[i])[0]'(by rw [hc]; omega)) := by
    rw [flat_get hc xs i 0 _ hx (by omega)]; exact List.getElem?_eq_getElem (by rw [hc]; omega)
  obtain ⟨b, o, rfl, hlt, _⟩ := hcell _ _ h0
  refine ⟨b, o, cap, rfl, hlt, fun j u hj hu => ?_⟩
  have hj' := flat_get hc xs i j _ hx hj
  rw [hu] at hj'
  obtain ⟨b', o', e, _, hc'⟩ := hcell _ _ hj'
  simp only [Option.some.injEq, Addr.mk.injEq, and_true] at e
  obtain ⟨rfl, rfl⟩ := e
  exact hc'
end Go.Proofs.YtfjdogpjckipbaaGreatDoor
