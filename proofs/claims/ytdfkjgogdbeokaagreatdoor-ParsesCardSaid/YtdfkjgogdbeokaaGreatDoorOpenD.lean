/-
  DERIVED. Items in memory: five cells each; slices that are read.
-/
import Derived.Test.YtdfkjgogdbeokaaGreatDoorProg
import Derived.WalkKit
import Derived.WalkSpells
import Derived.WalkLawsBesides
import Derived.KernelRfl
import Derived.Deep.QuietTactic
import Derived.BigQuiet
import Derived.Deep.Slices
import Derived.SizedLaws
import Derived.ProofKit
namespace Go.Proofs.YtdfkjgogdbeokaaGreatDoor
open Go.RowKit

theorem bcell' {W w1 : World} (hb : Below W.heap.size W w1) : (∀ b o, b < W.heap.size → w1.cell? ⟨b, o, none⟩ = W.cell? ⟨b, o, none⟩) ∧ (∀ b o, b < W.heap.size → w1.frozen? ⟨b, o, none⟩ = W.frozen? ⟨b, o, none⟩) :=
  ⟨fun b o h => hb.cell (p := ⟨b, o, none⟩) h, fun b o h => hb.frozen (p := ⟨b, o, none⟩) h⟩

/-- An item: its kind, number, word, parts. -/
structure It where
  k : Int
  n : Int
  s : ByteArray
  re : Int
  im : Int
/-- Its cells as package flowlineref has it, and as package flow has it. -/
def It.rc (x : It) : List Value := [.int .i64 x.k, .int .i64 x.n, .string x.s, .int .i64 x.re, .int .i64 x.im]
def It.fc (x : It) : List Value := [.int .i64 x.k, .int .i32 x.n, .string x.s, .int .i64 x.re, .int .i64 x.im]

/-- The slice value v, of n elements of sz cells each, reads as the cells cs. -/
def Reads (w : World) (v : Value) (sz n : Nat) (cs : List Value) : Prop :=
  ∃ ap cap, v = .slice ap n cap ∧ cs.length = n * sz ∧ ∀ j u, cs[j]? = some u → ∃ b o, ap = some ⟨b, o, none⟩ ∧ b < w.heap.size ∧ w.cell? ⟨b, o + j, none⟩ = some u

theorem Reads.below {w w' : World} {v : Value} {sz n : Nat} {cs : List Value} (h : Reads w v sz n cs) (hb : Below w.heap.size w w') : Reads w' v sz n cs := by
  obtain ⟨ap, cap, rfl, hl, hc⟩ := h
  refine ⟨ap, cap, rfl, hl, fun j u hj => ?_⟩
  obtain ⟨b, o, rfl, hlt, hcell⟩ := hc j u hj
  exact ⟨b, o, rfl, Nat.lt_of_lt_of_le hlt hb.size, by rw [hb.cell (p := ⟨b, o + j, none⟩) hlt]; exact hcell⟩

theorem Reads.of_owns {w : World} {base : Nat} {e : TypeId} {sz n : Nat} {v : Value} {xs : List Value} (h : w.ownsRow base e sz v n xs) : Reads w v sz n xs := by
  obtain ⟨hl, h | ⟨g, cap, cur, rfl, hg, hh, hn, hm, hs, ht⟩⟩ := h
  · obtain ⟨rfl, rfl⟩ := h
    simp at hl
    subst hl
    exact ⟨none, 0, rfl, by simp, fun j u hj => by simp at hj⟩
  · refine ⟨some ⟨g, 0, none⟩, cap, rfl, hl, fun j u hj => ⟨g, 0, rfl, ?_, ?_⟩⟩
    · rcases Nat.lt_or_ge g w.heap.size with h1 | h1
      · exact h1
      · rw [Array.getElem?_eq_none h1] at hh; cases hh
    · have hj' : j < n * sz := by
        have := (List.getElem?_eq_some_iff.1 hj).1
        omega
      subst ht
      rw [List.getElem?_take_of_lt hj'] at hj
      simp [World.cell?, hh]
      simpa using hj

theorem flat_get {cells : It → List Value} (hc : ∀ x, (cells x).length = 5) : ∀ (xs : List It) (i j : Nat) (x : It), xs[i]? = some x → j < 5 → (xs.flatMap cells)[i * 5 + j]? = (cells x)[j]?
  | [], _, _, _, h, _ => by simp at h
  | y :: ys, 0, j, x, h, hj => by
    simp at h
    subst h
    simp [List.getElem?_append, hc, hj]
  | y :: ys, i + 1, j, x, h, hj => by
    have h' : ys[i]? = some x := by simpa using h
    have := flat_get hc ys i j x h' hj
    rw [List.flatMap_cons, List.getElem?_append_right (by rw [hc]; omega), hc, show (i + 1) * 5 + j - 5 = i * 5 + j from by omega]
    exact this
theorem flat_len {cells : It → List Value} (hc : ∀ x, (cells x).length = 5) (xs : List It) : (xs.flatMap cells).length = xs.length * 5 := by
  induction xs with
  | nil => rfl
  | cons y ys ih => simp [List.flatMap_cons, hc, ih]; omega

/-- The five cells of an element. -/
theorem Reads.five {w : World} {v : Value} {n : Nat} {cells : It → List Value} {xs : List It} (hc : ∀ x, (cells x).length = 5) (h : Reads w v 5 n (xs.flatMap cells)) (i : Nat) (hi : i < xs.length) :
    ∃ b o cap, v = .slice (some ⟨b, o, none⟩) n cap ∧ b < w.heap.size ∧ ∀ j u, j < 5 → (cells xs[i])[j]? = some u → w.cell? ⟨b, o + (i * 5 + j), none⟩ = some u := by
  obtain ⟨ap, cap, rfl, hl, hcell⟩ := h
  have hx : xs[i]? = some xs[i] := List.getElem?_eq_getElem hi
  have h0 : (xs.flatMap cells)[i * 5 + 0]? = some ((cells xs[i])[0]'(by rw [hc]; omega)) := by
    rw [flat_get hc xs i 0 _ hx (by omega)]; exact List.getElem?_eq_getElem (by rw [hc]; omega)
  obtain ⟨b, o, rfl, hlt, _⟩ := hcell _ _ h0
  refine ⟨b, o, cap, rfl, hlt, fun j u hj hu => ?_⟩
  have hj' := flat_get hc xs i j _ hx hj
  rw [hu] at hj'
  obtain ⟨b', o', e, _, hc'⟩ := hcell _ _ hj'
  simp only [Option.some.injEq, Addr.mk.injEq, and_true] at e
  obtain ⟨rfl, rfl⟩ := e
  exact hc'
end Go.Proofs.YtdfkjgogdbeokaaGreatDoor
namespace Go.Proofs.YtdfkjgogdbeokaaGreatDoor
open Go.RowKit

theorem Reads.one {w : World} {v : Value} {n : Nat} {cs : List Value} (h : Reads w v 1 n cs) (i : Nat) (hi : i < cs.length) :
    ∃ b o cap, v = .slice (some ⟨b, o, none⟩) n cap ∧ b < w.heap.size ∧ w.cell? ⟨b, o + i, none⟩ = some cs[i] := by
  obtain ⟨ap, cap, rfl, hl, hcell⟩ := h
  obtain ⟨b, o, rfl, hlt, hc⟩ := hcell i cs[i] (List.getElem?_eq_getElem hi)
  exact ⟨b, o, cap, rfl, hlt, hc⟩

set_option maxRecDepth 100000 in
set_option maxHeartbeats 400000 in
theorem named_same (w : World) (ss : List ByteArray) (ap aq : Option Addr) (cap caq : Nat) (hr : Reads w (.slice ap ss.length cap) 1 ss.length (ss.map Value.string)) (hq : Reads w (.slice aq ss.length caq) 1 ss.length (ss.map Value.string)) (hlen : ss.length ≤ 140737488351232) :
    Calls Tryz.prog 21 #[.slice ap ss.length cap, .slice aq ss.length caq] w fun e w' => e = .returned (.bool true) ∧ Below w.heap.size w w' := by
  go_enter Tryz.func21, Tryz.ntmps21
  go_wp2
  go_loopw [5] (fun t wr => ∃ k : Nat, k ≤ ss.length ∧ t = .int .i64 k ∧ Below w.heap.size w wr) (fun t _ => ss.length - (intOf t).toNat)
  case atStart => exact ⟨0, Nat.zero_le _, rfl, Below.refl _ _⟩
  case round =>
    obtain ⟨k, hk, rfl, hb⟩ := hrel
    by_cases hlt : k < ss.length
    · obtain ⟨b, o, cap', hv, hbl, hc⟩ := hr.one k (by simpa using hlt)
      cases hv
      obtain ⟨b', o', cap'', hv', hbl', hc'⟩ := hq.one k (by simpa using hlt)
      cases hv'
      have s0 : wr.cell? ⟨b, o + k, none⟩ = some (.string ss[k]) := by rw [hb.cell (p := ⟨b, o + k, none⟩) hbl, hc]; simp
      have s1 : wr.cell? ⟨b', o' + k, none⟩ = some (.string ss[k]) := by rw [hb.cell (p := ⟨b', o' + k, none⟩) hbl', hc']; simp
      clear hc hc'
      go_wp2
      go_quiet (fail)
      go_wp2
      exact ⟨⟨k + 1, by omega, by go_num, below_drewN hb _⟩, by simp [intOf]; omega⟩
    · obtain rfl : k = ss.length := by omega
      go_wp2
      go_ret
      exact ⟨rfl, hb⟩
end Go.Proofs.YtdfkjgogdbeokaaGreatDoor
namespace Go.Proofs.YtdfkjgogdbeokaaGreatDoor
open Go.RowKit

/-- A step of a script. -/
structure OpD where
  kd : Int
  a : Int
  b : Int
  s : ByteArray
  t : ByteArray
  ia : Option Addr
  ic : Nat
  xs : List It
def OpD.cells (o : OpD) : List Value := [.int .i64 o.kd, .int .i64 o.a, .int .i64 o.b, .string o.s, .string o.t, .slice o.ia o.xs.length o.ic]
def OpD.v (o : OpD) : Value := .agg #[.int .i64 o.kd, .int .i64 o.a, .int .i64 o.b, .string o.s, .string o.t, .slice o.ia o.xs.length o.ic]
/-- The numbers of an item that came in fit their kinds. -/
structure It.rok (x : It) : Prop where
  k : (Lit.int .i64 x.k).wf = true
  s : x.s.size ≤ maxLen
  re : (Lit.int .i64 x.re).wf = true
  im : (Lit.int .i64 x.im).wf = true
structure OpOk (w : World) (o : OpD) : Prop where
  rd : Reads w (.slice o.ia o.xs.length o.ic) 5 o.xs.length (o.xs.flatMap It.rc)
  len : o.xs.length * 48 ≤ 140737488351232
  ok : ∀ y ∈ o.xs, y.rok
theorem OpOk.below {w w' : World} {o : OpD} (h : OpOk w o) (hb : Below w.heap.size w w') : OpOk w' o := ⟨h.rd.below hb, h.len, h.ok⟩
/-- The cells of an element, whatever the element. -/
theorem flat_at {α : Type} {cells : α → List Value} {sz : Nat} (hc : ∀ x, (cells x).length = sz) : ∀ (xs : List α) (i j : Nat) (x : α), xs[i]? = some x → j < sz → (xs.flatMap cells)[i * sz + j]? = (cells x)[j]?
  | [], _, _, _, h, _ => by simp at h
  | y :: ys, 0, j, x, h, hj => by
    simp at h
    subst h
    simp [List.getElem?_append, hc, hj]
  | y :: ys, i + 1, j, x, h, hj => by
    have h' : ys[i]? = some x := by simpa using h
    have := flat_at hc ys i j x h' hj
    rw [List.flatMap_cons, List.getElem?_append_right (by rw [hc, Nat.add_mul]; omega), hc, show (i + 1) * sz + j - sz = i * sz + j from by rw [Nat.add_mul]; omega]
    exact this
theorem Reads.elem {α : Type} {w : World} {v : Value} {n sz : Nat} {cells : α → List Value} {xs : List α} (hsz : 0 < sz) (hc : ∀ x, (cells x).length = sz) (h : Reads w v sz n (xs.flatMap cells)) (i : Nat) (hi : i < xs.length) :
    ∃ b o cap, v = .slice (some ⟨b, o, none⟩) n cap ∧ b < w.heap.size ∧ ∀ j u, j < sz → (cells xs[i])[j]? = some u → w.cell? ⟨b, o + i * sz + j, none⟩ = some u := by
  obtain ⟨ap, cap, rfl, hl, hcell⟩ := h
  have hx : xs[i]? = some xs[i] := List.getElem?_eq_getElem hi
  have h0 : (xs.flatMap cells)[i * sz + 0]? = some ((cells xs[i])[0]'(by rw [hc]; omega)) := by
    rw [flat_at hc xs i 0 _ hx hsz]; exact List.getElem?_eq_getElem (by rw [hc]; omega)
  obtain ⟨b, o, rfl, hlt, _⟩ := hcell _ _ h0
  refine ⟨b, o, cap, rfl, hlt, fun j u hj hu => ?_⟩
  have hj' := flat_at hc xs i j _ hx hj
  rw [hu] at hj'
  obtain ⟨b', o', e, _, hc'⟩ := hcell _ _ hj'
  simp only [Option.some.injEq, Addr.mk.injEq, and_true] at e
  obtain ⟨rfl, rfl⟩ := e
  rw [Nat.add_assoc]
  exact hc'
theorem op_six (o : OpD) : o.cells.length = 6 := rfl
theorem cInt : Tryz.prog.cellsOf 3 = 1 := by kernel_rfl
theorem cStr : Tryz.prog.cellsOf 9 = 1 := by kernel_rfl
end Go.Proofs.YtdfkjgogdbeokaaGreatDoor
namespace Go.Proofs.YtdfkjgogdbeokaaGreatDoor
open Go.RowKit Go.Deep

theorem reads_of {α : Type} {W : World} {a : Addr} {len cap sz : Nat} {cells : α → List Value} {f : Nat → α} (hsz : 0 < sz) (hc : ∀ x, (cells x).length = sz)
    (h : ∀ i, i < len → ∀ j, j < sz → W.cell? ((a.add (i * sz)).add j) = (cells (f i))[j]?) : Reads W (.slice (some a) len cap) sz len (((List.range len).map f).flatMap cells) := by
  have hlen : ∀ l : List α, (l.flatMap cells).length = l.length * sz := by
    intro l
    induction l with
    | nil => simp
    | cons y ys ih => rw [List.flatMap_cons, List.length_append, ih, hc, List.length_cons, Nat.add_mul]; omega
  refine ⟨some a, cap, rfl, by rw [hlen]; simp, fun q u hq => ?_⟩
  have hq' : q < len * sz := by
    have := (List.getElem?_eq_some_iff.1 hq).1
    rw [hlen] at this
    simpa using this
  have hi : q / sz < len := (Nat.div_lt_iff_lt_mul hsz).2 hq'
  have hj : q % sz < sz := Nat.mod_lt _ hsz
  have e : q / sz * sz + q % sz = q := Nat.div_add_mod' q sz
  have hx : ((List.range len).map f)[q / sz]? = some (f (q / sz)) := by simp [hi]
  have h1 := flat_at hc _ (q / sz) (q % sz) _ hx hj
  rw [e, hq] at h1
  have h2 := h (q / sz) hi (q % sz) hj
  rw [← h1] at h2
  have h0 := h 0 (Nat.lt_of_le_of_lt (Nat.zero_le _) hi) 0 hsz
  obtain ⟨z, hz⟩ : ∃ z, (cells (f 0))[0]? = some z := ⟨(cells (f 0))[0]'(by rw [hc]; exact hsz), List.getElem?_eq_getElem _⟩
  rw [hz] at h0
  have hsp : a.spot = none := by simpa [Addr.add] using World.cell?_spot h0
  obtain ⟨b, o, spot⟩ := a
  simp only at hsp
  subst hsp
  refine ⟨b, o, rfl, ?_, ?_⟩
  · rcases Nat.lt_or_ge b W.heap.size with h3 | h3
    · exact h3
    · simp [World.cell?, Addr.add, Array.getElem?_eq_none h3] at h0
  · rw [Go.WideShapes.add_plain, Go.WideShapes.add_plain, Nat.add_assoc, e] at h2
    exact h2

theorem cells_get {w : World} {base : Nat} {a : Addr} {n : Nat} {cs : List Value} (h : w.cells? base a n = some cs) : cs.length = n ∧ ∀ j, j < n → w.cell? (a.add j) = cs[j]? := by
  unfold World.cells? at h
  split at h
  · refine ⟨by simpa using mapM_some_length h, fun j hj => ?_⟩
    exact mapM_some_get h j j (by simp [hj])
  · cases h

theorem list5 {α : Type} : ∀ (l : List α), l.length = 5 → ∃ a b c d e, l = [a, b, c, d, e]
  | [a, b, c, d, e], _ => ⟨a, b, c, d, e, rfl⟩
theorem list6 {α : Type} : ∀ (l : List α), l.length = 6 → ∃ a b c d e f, l = [a, b, c, d, e, f]
  | [a, b, c, d, e, f], _ => ⟨a, b, c, d, e, f, rfl⟩

section
variable {H : Type} {enc : TypeId × Value → H} {W : World} {sp : Nat → Bool} {held : Bool}

theorem open_item {n : Nat} {cs : List Value} {x : DataW H × List MemPlace} (h : DataW.trod enc Tryz.prog W 0 sp held n 45 cs = some x) : ∃ it : It, cs = it.rc ∧ it.rok := by
  obtain ⟨xs, m, _, _, hl, _, hf⟩ := DataW.trod_struct Tryz.underlying45 h
  have hl5 : cs.length = 5 := hl.trans (show Tryz.prog.cellsOf 45 = 5 by kernel_rfl)
  obtain ⟨c0, c1, c2, c3, c4, rfl⟩ := list5 cs hl5
  obtain ⟨y0, y1, y2, y3, y4, rfl⟩ := list5 xs (by assumption)
  have g0 := hf 0 _ rfl
  have g1 := hf 1 _ rfl
  have g2 := hf 2 _ rfl
  have g3 := hf 3 _ rfl
  have g4 := hf 4 _ rfl
  obtain ⟨k, e0, _, wk⟩ := DataW.trod_int Tryz.underlying3 g0
  obtain ⟨n', e1, _, _⟩ := DataW.trod_int Tryz.underlying3 g1
  obtain ⟨s, e2, _, ws⟩ := DataW.trod_string Tryz.underlying9 g2
  obtain ⟨re, e3, _, wre⟩ := DataW.trod_int Tryz.underlying3 g3
  obtain ⟨im, e4, _, wim⟩ := DataW.trod_int Tryz.underlying3 g4
  simp [cInt, cStr] at e0 e1 e2 e3 e4
  subst e0 e1 e2 e3 e4
  exact ⟨⟨k, n', s, re, im⟩, rfl, ⟨wk, ws, wre, wim⟩⟩

theorem cItem : Tryz.prog.cellsOf 45 = 5 := by kernel_rfl
theorem bItem : Tryz.prog.bytesOf 45 = 48 := by kernel_rfl

theorem open_items {n : Nat} {cs : List Value} {x : DataW H × List MemPlace} (h : DataW.trod enc Tryz.prog W 0 sp held n 25 cs = some x) (hw : ∀ z ∈ x.1.weights Tryz.prog 25, z ≤ reachBytes) :
    ∃ (ia : Option Addr) (ic : Nat) (xs : List It), cs = [.slice ia xs.length ic] ∧ Reads W (.slice ia xs.length ic) 5 xs.length (xs.flatMap It.rc) ∧ (∀ y ∈ xs, y.rok) ∧ xs.length * 48 ≤ 140737488351232 := by
  rcases open_slice Tryz.underlying25 h with ⟨rfl, rfl⟩ | ⟨a, len, cap, m, n', D, Pl, rfl, _, hlc, _, hm, rfl, hx⟩
  · exact ⟨none, 0, [], rfl, ⟨none, 0, rfl, by simp, fun j u hj => by simp at hj⟩, by simp, by simp⟩
  · have hlm : len ≤ m := by rw [hm]; split <;> omega
    have hwl : len * 48 ≤ 140737488351232 := by
      have h1 := hw ((((List.range len).map D).length + ((List.range (m - len)).map fun j => D (len + j)).length) * Tryz.prog.bytesOf 45) (by simp [DataW.weights, Tryz.underlying25])
      rw [bItem] at h1
      simp [reachBytes] at h1
      have h2 : len * 48 ≤ (len + (m - len)) * 48 := Nat.mul_le_mul_right _ (by omega)
      omega
    have hex : ∀ i, i < len → ∃ it : It, it.rok ∧ ∀ j, j < 5 → W.cell? ((a.add (i * 5)).add j) = (It.rc it)[j]? := fun i hi => by
      obtain ⟨cs', hcs, ht⟩ := hx i (by omega)
      rw [cItem] at hcs
      obtain ⟨it, rfl, hok⟩ := open_item ht
      exact ⟨it, hok, fun j hj => (cells_get hcs).2 j hj⟩
    have : Inhabited It := ⟨⟨0, 0, ⟨#[]⟩, 0, 0⟩⟩
    obtain ⟨f, hf⟩ := choose_lt hex
    have hrd := reads_of (W := W) (a := a) (len := len) (cap := cap) (sz := 5) (cells := It.rc) (f := f) (by omega) (fun _ => rfl) (fun i hi => (hf i hi).2)
    refine ⟨some a, cap, (List.range len).map f, by simp, by simpa using hrd, fun y hy => ?_, by simpa using hwl⟩
    obtain ⟨i, hi, rfl⟩ := List.mem_map.1 hy
    exact (hf i (List.mem_range.1 hi)).1

theorem cOp : Tryz.prog.cellsOf 27 = 6 := by kernel_rfl
theorem bOp : Tryz.prog.bytesOf 27 = 80 := by kernel_rfl
theorem cSl : Tryz.prog.cellsOf 25 = 1 := by kernel_rfl

theorem open_op {n : Nat} {cs : List Value} {x : DataW H × List MemPlace} (h : DataW.trod enc Tryz.prog W 0 sp held n 27 cs = some x) (hw : ∀ z ∈ x.1.weights Tryz.prog 27, z ≤ reachBytes) : ∃ o : OpD, cs = o.cells ∧ OpOk W o ∧ o.s.size ≤ maxLen := by
  obtain ⟨xs, m, _, hx, hl, hxl, hf⟩ := DataW.trod_struct Tryz.underlying27 h
  have hl6 : cs.length = 6 := hl.trans cOp
  obtain ⟨c0, c1, c2, c3, c4, c5, rfl⟩ := list6 cs hl6
  obtain ⟨y0, y1, y2, y3, y4, y5, rfl⟩ := list6 xs hxl
  have g0 := hf 0 _ rfl
  have g1 := hf 1 _ rfl
  have g2 := hf 2 _ rfl
  have g3 := hf 3 _ rfl
  have g4 := hf 4 _ rfl
  have g5 := hf 5 _ rfl
  obtain ⟨kd, e0, _, _⟩ := DataW.trod_int Tryz.underlying3 g0
  obtain ⟨a, e1, _, _⟩ := DataW.trod_int Tryz.underlying3 g1
  obtain ⟨b, e2, _, _⟩ := DataW.trod_int Tryz.underlying3 g2
  obtain ⟨s, e3, _, ws⟩ := DataW.trod_string Tryz.underlying9 g3
  obtain ⟨t, e4, _, _⟩ := DataW.trod_string Tryz.underlying9 g4
  have hw5 : ∀ z ∈ y5.1.weights Tryz.prog 25, z ≤ reachBytes := fun z hz => by
    refine hw z ?_
    rw [hx]
    simp only [DataW.weights, Tryz.underlying27]
    exact DataW.weights_mem_each (j := 5) (t := 25) (d := y5.1) rfl rfl z hz
  obtain ⟨ia, ic, its, e5, hrd, hok, hlen⟩ := open_items g5 hw5
  simp [cInt, cStr, cSl] at e0 e1 e2 e3 e4 e5
  subst e0 e1 e2 e3 e4 e5
  exact ⟨⟨kd, a, b, s, t, ia, ic, its⟩, rfl, ⟨hrd, hlen, hok⟩, ws⟩

theorem weights_mem_all {P : Program} {e : TypeId} : ∀ {l : List (DataW H)} {d : DataW H}, d ∈ l → ∀ z ∈ d.weights P e, z ∈ DataW.weightsAll P e l
  | [], _, h, _, _ => by cases h
  | a :: r, d, h, z, hz => by
    rw [DataW.weightsAll]
    rcases List.mem_cons.1 h with rfl | h
    · exact List.mem_append_left _ hz
    · exact List.mem_append_right _ (weights_mem_all h z hz)

theorem open_script {n : Nat} {cs : List Value} {x : DataW H × List MemPlace} (h : DataW.trod enc Tryz.prog W 0 sp held n 22 cs = some x) (hw : ∀ z ∈ x.1.weights Tryz.prog 22, z ≤ reachBytes) :
    ∃ (ap : Option Addr) (cap : Nat) (ops : List OpD), cs = [.slice ap ops.length cap] ∧ Reads W (.slice ap ops.length cap) 6 ops.length (ops.flatMap OpD.cells) ∧ (∀ o ∈ ops, OpOk W o ∧ o.s.size ≤ maxLen) ∧ ops.length * 80 ≤ 140737488351232 := by
  rcases open_slice Tryz.underlying22 h with ⟨rfl, rfl⟩ | ⟨a, len, cap, m, n', D, Pl, rfl, _, hlc, _, hm, rfl, hx⟩
  · exact ⟨none, 0, [], rfl, ⟨none, 0, rfl, by simp, fun j u hj => by simp at hj⟩, by simp, by simp⟩
  · have hlm : len ≤ m := by rw [hm]; split <;> omega
    have hwl : len * 80 ≤ 140737488351232 := by
      have h1 := hw ((((List.range len).map D).length + ((List.range (m - len)).map fun j => D (len + j)).length) * Tryz.prog.bytesOf 27) (by simp [DataW.weights, Tryz.underlying22])
      rw [bOp] at h1
      simp [reachBytes] at h1
      have h2 : len * 80 ≤ (len + (m - len)) * 80 := Nat.mul_le_mul_right _ (by omega)
      omega
    have hex : ∀ i, i < len → ∃ o : OpD, (OpOk W o ∧ o.s.size ≤ maxLen) ∧ ∀ j, j < 6 → W.cell? ((a.add (i * 6)).add j) = (OpD.cells o)[j]? := fun i hi => by
      obtain ⟨cs', hcs, ht⟩ := hx i (by omega)
      rw [cOp] at hcs
      obtain ⟨o, rfl, hok⟩ := open_op ht (fun z hz => hw z (by
        simp only [DataW.weights, Tryz.underlying22]
        refine List.mem_cons_of_mem _ (List.mem_append_left _ (weights_mem_all (d := D i) (List.mem_map.2 ⟨i, List.mem_range.2 hi, rfl⟩) z hz))))
      exact ⟨o, hok, fun j hj => (cells_get hcs).2 j hj⟩
    have : Inhabited OpD := ⟨⟨0, 0, 0, ⟨#[]⟩, ⟨#[]⟩, none, 0, []⟩⟩
    obtain ⟨f, hf⟩ := choose_lt hex
    have hrd := reads_of (W := W) (a := a) (len := len) (cap := cap) (sz := 6) (cells := OpD.cells) (f := f) (by omega) (fun _ => rfl) (fun i hi => (hf i hi).2)
    refine ⟨some a, cap, (List.range len).map f, by simp, by simpa using hrd, fun y hy => ?_, by simpa using hwl⟩
    obtain ⟨i, hi, rfl⟩ := List.mem_map.1 hy
    exact (hf i (List.mem_range.1 hi)).1
end
end Go.Proofs.YtdfkjgogdbeokaaGreatDoor
