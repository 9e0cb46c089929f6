/-
  DERIVED. A script that came in: from its reading to the cells that the walks ask for.
-/
import Derived.Test.YtfjdogpjckipbaaGreatDoorPlaysW
import Derived.Deep.Slices
import Derived.SizedLaws
import Derived.ProofKit
namespace Go.Proofs.YtfjdogpjckipbaaGreatDoor
open Go.RowKit Go.Deep

theorem reads_of {α : Type} {W : World} {a : Addr} {len cap sz : Nat} {cells : α → List Value} {f : Nat → α} (hsz : 0 < sz) (hc : ∀ x, (cells x).length = sz)
    (h : ∀ i, i < len → ∀ j, j < sz → W.cell? ((a.add (i * sz)).add j) = (cells (f i))[j]?) : Reads W (.slice (some a) len cap) sz len (((List.range len).map f).flatMap cells) := by
  have hlen : ∀ l : List α, (l.flatMap cells).length = l.length * sz := by
    intro l
    induction l with
    | nil => simp
    | cons y ys ih => rw [List.flatMap_cons, List.length_append, ih, hc, List.length_cons, Nat.add_mul]; omega
  refine ⟨some a, cap, rfl, by rw [hlen]; simp, fun q u hq => ?_⟩
  have hq' : q < len * sz := by
    have := (List.getElem?_eq_some_iff.1 hq).1
    rw [hlen] at this
    simpa using this
  have hi : q / sz < len := (Nat.div_lt_iff_lt_mul hsz).2 hq'
  have hj : q % sz < sz := Nat.mod_lt _ hsz
  have e : q / sz * sz + q % sz = q := Nat.div_add_mod' q sz
  have hx : ((List.range len).map f)[q / sz]? = some (f (q / sz)) := by simp [hi]
  have h1 := flat_at hc _ (q / sz) (q % sz) _ hx hj
  rw [e, hq] at h1
  have h2 := h (q / sz) hi (q % sz) hj
  rw [← h1] at h2
  have h0 := h 0 (Nat.lt_of_le_of_lt (Nat.zero_le _) hi) 0 hsz
  obtain ⟨z, hz⟩ : ∃ z, (cells (f 0))[0]? = some z := ⟨(cells (f 0))[0]'(by rw [hc]; exact hsz), List.getElem?_eq_getElem _⟩
  rw [hz] at h0
  have hsp : a.spot = none := by simpa [Addr.add] using World.cell?_spot h0
  obtain ⟨b, o, spot⟩ := a
  simp only at hsp
  subst hsp
  refine ⟨b, o, rfl, ?_, ?_⟩
  · rcases Nat.lt_or_ge b W.heap.size with h3 | h3
    · exact h3
    · simp [World.cell?, Addr.add, Array.getElem?_eq_none h3] at h0
  · rw [Go.WideShapes.add_plain, Go.WideShapes.add_plain, Nat.add_assoc, e] at h2
    exact h2

theorem cells_get {w : World} {base : Nat} {a : Addr} {n : Nat} {cs : List Value} (h : w.cells? base a n = some cs) : cs.length = n ∧ ∀ j, j < n → w.cell? (a.add j) = cs[j]? := by
  unfold World.cells? at h
  split at h
  · refine ⟨by simpa using mapM_some_length h, fun j hj => ?_⟩
    exact mapM_some_get h j j (by simp [hj])
  · cases h

theorem list5 {α : Type} : ∀ (l : List α), l.length = 5 → ∃ a b c d e, l = [a, b, c, d, e]
  | [a, b, c, d, e], _ => ⟨a, b, c, d, e, rfl⟩
theorem list6 {α : Type} : ∀ (l : List α), l.length = 6 → ∃ a b c d e f, l = [a, b, c, d, e, f]
  | [a, b, c, d, e, f], _ => ⟨a, b, c, d, e, f, rfl⟩

section
variable {H : Type} {enc : TypeId × Value → H} {W : World} {sp : Nat → Bool} {held : Bool}

theorem open_item {n : Nat} {cs : List Value} {x : DataW H × List MemPlace} (h : DataW.trod enc Tryz.prog W 0 sp held n 64 cs = some x) : ∃ it : It, cs = it.rc ∧ it.rok := by
  obtain ⟨xs, m, _, _, hl, _, hf⟩ := DataW.trod_struct Tryz.underlying64 h
  have hl5 : cs.length = 5 := hl.trans (show Tryz.prog.cellsOf 64 = 5 by kernel_rfl)
  obtain ⟨c0, c1, c2, c3, c4, rfl⟩ := list5 cs hl5
  obtain ⟨y0, y1, y2, y3, y4, rfl⟩ := list5 xs (by assumption)
  have g0 := hf 0 _ rfl
  have g1 := hf 1 _ rfl
  have g2 := hf 2 _ rfl
  have g3 := hf 3 _ rfl
  have g4 := hf 4 _ rfl
  obtain ⟨k, e0, _, wk⟩ := DataW.trod_int Tryz.underlying3 g0
  obtain ⟨n', e1, _, _⟩ := DataW.trod_int Tryz.underlying3 g1
  obtain ⟨s, e2, _, ws⟩ := DataW.trod_string Tryz.underlying9 g2
  obtain ⟨re, e3, _, wre⟩ := DataW.trod_int Tryz.underlying3 g3
  obtain ⟨im, e4, _, wim⟩ := DataW.trod_int Tryz.underlying3 g4
  simp [cInt, cStr] at e0 e1 e2 e3 e4
  subst e0 e1 e2 e3 e4
  exact ⟨⟨k, n', s, re, im⟩, rfl, ⟨wk, ws, wre, wim⟩⟩

theorem cItem : Tryz.prog.cellsOf 64 = 5 := by kernel_rfl
theorem bItem : Tryz.prog.bytesOf 64 = 48 := by kernel_rfl

theorem open_items {n : Nat} {cs : List Value} {x : DataW H × List MemPlace} (h : DataW.trod enc Tryz.prog W 0 sp held n 26 cs = some x) (hw : ∀ z ∈ x.1.weights Tryz.prog 26, z ≤ reachBytes) :
    ∃ (ia : Option Addr) (ic : Nat) (xs : List It), cs = [.slice ia xs.length ic] ∧ Reads W (.slice ia xs.length ic) 5 xs.length (xs.flatMap It.rc) ∧ (∀ y ∈ xs, y.rok) ∧ xs.length * 48 ≤ 140737488351232 := by
  rcases open_slice Tryz.underlying26 h with ⟨rfl, rfl⟩ | ⟨a, len, cap, m, n', D, Pl, rfl, _, hlc, _, hm, rfl, hx⟩
  · exact ⟨none, 0, [], rfl, ⟨none, 0, rfl, by simp, fun j u hj => by simp at hj⟩, by simp, by simp⟩
  · have hlm : len ≤ m := by rw [hm]; split <;> omega
    have hwl : len * 48 ≤ 140737488351232 := by
      have h1 := hw ((((List.range len).map D).length + ((List.range (m - len)).map fun j => D (len + j)).length) * Tryz.prog.bytesOf 64) (by simp [DataW.weights, Tryz.underlying26])
      rw [bItem] at h1
      simp [reachBytes] at h1
      have h2 : len * 48 ≤ (len + (m - len)) * 48 := Nat.mul_le_mul_right _ (by omega)
      omega
    have hex : ∀ i, i < len → ∃ it : It, it.rok ∧ ∀ j, j < 5 → W.cell? ((a.add (i * 5)).add j) = (It.rc it)[j]? := fun i hi => by
      obtain ⟨cs', hcs, ht⟩ := hx i (by omega)
      rw [cItem] at hcs
      obtain ⟨it, rfl, hok⟩ := open_item ht
      exact ⟨it, hok, fun j hj => (cells_get hcs).2 j hj⟩
    have : Inhabited It := ⟨⟨0, 0, ⟨#[]⟩, 0, 0⟩⟩
    obtain ⟨f, hf⟩ := choose_lt hex
    have hrd := reads_of (W := W) (a := a) (len := len) (cap := cap) (sz := 5) (cells := It.rc) (f := f) (by omega) (fun _ => rfl) (fun i hi => (hf i hi).2)
    refine ⟨some a, cap, (List.range len).map f, by simp, by simpa using hrd, fun y hy => ?_, by simpa using hwl⟩
    obtain ⟨i, hi, rfl⟩ := List.mem_map.1 hy
    exact (hf i (List.mem_range.1 hi)).1

theorem cOp : Tryz.prog.cellsOf 28 = 6 := by kernel_rfl
theorem bOp : Tryz.prog.bytesOf 28 = 80 := by kernel_rfl
theorem cSl : Tryz.prog.cellsOf 26 = 1 := by kernel_rfl

theorem open_op {n : Nat} {cs : List Value} {x : DataW H × List MemPlace} (h : DataW.trod enc Tryz.prog W 0 sp held n 28 cs = some x) (hw : ∀ z ∈ x.1.weights Tryz.prog 28, z ≤ reachBytes) : ∃ o : OpD, cs = o.cells ∧ OpOk W o ∧ o.s.size ≤ maxLen := by
  obtain ⟨xs, m, _, hx, hl, hxl, hf⟩ := DataW.trod_struct Tryz.underlying28 h
  have hl6 : cs.length = 6 := hl.trans cOp
  obtain ⟨c0, c1, c2, c3, c4, c5, rfl⟩ := list6 cs hl6
  obtain ⟨y0, y1, y2, y3, y4, y5, rfl⟩ := list6 xs hxl
  have g0 := hf 0 _ rfl
  have g1 := hf 1 _ rfl
  have g2 := hf 2 _ rfl
  have g3 := hf 3 _ rfl
  have g4 := hf 4 _ rfl
  have g5 := hf 5 _ rfl
  obtain ⟨kd, e0, _, _⟩ := DataW.trod_int Tryz.underlying3 g0
  obtain ⟨a, e1, _, _⟩ := DataW.trod_int Tryz.underlying3 g1
  obtain ⟨b, e2, _, _⟩ := DataW.trod_int Tryz.underlying3 g2
  obtain ⟨s, e3, _, ws⟩ := DataW.trod_string Tryz.underlying9 g3
  obtain ⟨t, e4, _, _⟩ := DataW.trod_string Tryz.underlying9 g4
  have hw5 : ∀ z ∈ y5.1.weights Tryz.prog 26, z ≤ reachBytes := fun z hz => by
    refine hw z ?_
    rw [hx]
    simp only [DataW.weights, Tryz.underlying28]
    exact DataW.weights_mem_each (j := 5) (t := 26) (d := y5.1) rfl rfl z hz
  obtain ⟨ia, ic, its, e5, hrd, hok, hlen⟩ := open_items g5 hw5
  simp [cInt, cStr, cSl] at e0 e1 e2 e3 e4 e5
  subst e0 e1 e2 e3 e4 e5
  exact ⟨⟨kd, a, b, s, t, ia, ic, its⟩, rfl, ⟨hrd, hlen, hok⟩, ws⟩

theorem weights_mem_all {P : Program} {e : TypeId} : ∀ {l : List (DataW H)} {d : DataW H}, d ∈ l → ∀ z ∈ d.weights P e, z ∈ DataW.weightsAll P e l
  | [], _, h, _, _ => by cases h
  | a :: r, d, h, z, hz => by
    rw [DataW.weightsAll]
    rcases List.mem_cons.1 h with rfl | h
    · exact List.mem_append_left _ hz
    · exact List.mem_append_right _ (weights_mem_all h z hz)

theorem open_script {n : Nat} {cs : List Value} {x : DataW H × List MemPlace} (h : DataW.trod enc Tryz.prog W 0 sp held n 22 cs = some x) (hw : ∀ z ∈ x.1.weights Tryz.prog 22, z ≤ reachBytes) :
    ∃ (ap : Option Addr) (cap : Nat) (ops : List OpD), cs = [.slice ap ops.length cap] ∧ Reads W (.slice ap ops.length cap) 6 ops.length (ops.flatMap OpD.cells) ∧ (∀ o ∈ ops, OpOk W o ∧ o.s.size ≤ maxLen) ∧ ops.length * 80 ≤ 140737488351232 := by
  rcases open_slice Tryz.underlying22 h with ⟨rfl, rfl⟩ | ⟨a, len, cap, m, n', D, Pl, rfl, _, hlc, _, hm, rfl, hx⟩
  · exact ⟨none, 0, [], rfl, ⟨none, 0, rfl, by simp, fun j u hj => by simp at hj⟩, by simp, by simp⟩
  · have hlm : len ≤ m := by rw [hm]; split <;> omega
    have hwl : len * 80 ≤ 140737488351232 := by
      have h1 := hw ((((List.range len).map D).length + ((List.range (m - len)).map fun j => D (len + j)).length) * Tryz.prog.bytesOf 28) (by simp [DataW.weights, Tryz.underlying22])
      rw [bOp] at h1
      simp [reachBytes] at h1
      have h2 : len * 80 ≤ (len + (m - len)) * 80 := Nat.mul_le_mul_right _ (by omega)
      omega
    have hex : ∀ i, i < len → ∃ o : OpD, (OpOk W o ∧ o.s.size ≤ maxLen) ∧ ∀ j, j < 6 → W.cell? ((a.add (i * 6)).add j) = (OpD.cells o)[j]? := fun i hi => by
      obtain ⟨cs', hcs, ht⟩ := hx i (by omega)
      rw [cOp] at hcs
      obtain ⟨o, rfl, hok⟩ := open_op ht (fun z hz => hw z (by
        simp only [DataW.weights, Tryz.underlying22]
        refine List.mem_cons_of_mem _ (List.mem_append_left _ (weights_mem_all (d := D i) (List.mem_map.2 ⟨i, List.mem_range.2 hi, rfl⟩) z hz))))
      exact ⟨o, hok, fun j hj => (cells_get hcs).2 j hj⟩
    have : Inhabited OpD := ⟨⟨0, 0, 0, ⟨#[]⟩, ⟨#[]⟩, none, 0, []⟩⟩
    obtain ⟨f, hf⟩ := choose_lt hex
    have hrd := reads_of (W := W) (a := a) (len := len) (cap := cap) (sz := 6) (cells := OpD.cells) (f := f) (by omega) (fun _ => rfl) (fun i hi => (hf i hi).2)
    refine ⟨some a, cap, (List.range len).map f, by simp, by simpa using hrd, fun y hy => ?_, by simpa using hwl⟩
    obtain ⟨i, hi, rfl⟩ := List.mem_map.1 hy
    exact (hf i (List.mem_range.1 hi)).1
end
end Go.Proofs.YtfjdogpjckipbaaGreatDoor
