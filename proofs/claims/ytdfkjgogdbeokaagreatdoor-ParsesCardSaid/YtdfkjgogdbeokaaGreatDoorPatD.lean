/-
  DERIVED. From the table's datum to its cells.
-/
import Derived.Test.YtdfkjgogdbeokaaGreatDoorRows
import Derived.Test.YtdfkjgogdbeokaaGreatDoorCdTab
import Derived.OpenShut
import Derived.LaidLaws
namespace Go.Proofs.YtdfkjgogdbeokaaGreatDoor
open Go.RowKit Go.WideShapes

/-- A row of the table, as a datum. -/
def patE (P : ByteArray × Nat × Int × Int) : DataW Unit := .agg [.lit (.string P.1.data.toList), .lit (.int .i64 P.2.1), .lit (.int .i64 P.2.2.1), .lit (.int .i64 P.2.2.2)]
theorem patD_eq : Rows.laid_flowline_flow_patterns = .agg (patL.map patE) := by kernel_rfl
theorem Tryz.cPat : Tryz.prog.cellsOf 212 = 4 := by kernel_rfl
theorem Tryz.cPats : Tryz.prog.cellsOf 233 = 84 := by kernel_rfl
theorem Tryz.cI : Tryz.prog.cellsOf 3 = 1 := by kernel_rfl
theorem Tryz.cF : Tryz.prog.cellsOf 210 = 1 := by kernel_rfl
theorem Tryz.cS : Tryz.prog.cellsOf 9 = 1 := by kernel_rfl
theorem list4 {α : Type} : ∀ (l : List α), l.length = 4 → ∃ a b c d, l = [a, b, c, d]
  | [a, b, c, d], _ => ⟨a, b, c, d, rfl⟩

theorem pat_row {W : World} {sp : Nat → Bool} {held : Bool} {n : Nat} {cs : List Value} {x : DataW Unit × List MemPlace} {P : ByteArray × Nat × Int × Int} (h : DataW.trod (fun _ => ()) Tryz.prog W 0 sp held n 212 cs = some x) (hx : x.1 = patE P) :
    cs = [.string P.1, .int .i64 P.2.1, .int .i64 P.2.2.1, .int .i64 P.2.2.2] := by
  obtain ⟨xs, m, _, hxx, hl, hxl, hf⟩ := DataW.trod_struct Tryz.underlying212 h
  have hl4 : cs.length = 4 := hl.trans Tryz.cPat
  obtain ⟨c0, c1, c2, c3, rfl⟩ := list4 cs hl4
  obtain ⟨y0, y1, y2, y3, rfl⟩ := list4 xs (by assumption)
  have g0 := hf 0 _ rfl
  have g1 := hf 1 _ rfl
  have g2 := hf 2 _ rfl
  have g3 := hf 3 _ rfl
  obtain ⟨s, e0, x0, _⟩ := DataW.trod_string Tryz.underlying9 g0
  obtain ⟨a, e1, x1, _⟩ := DataW.trod_int Tryz.underlying210 g1
  obtain ⟨b, e2, x2, _⟩ := DataW.trod_int Tryz.underlying3 g2
  obtain ⟨c, e3, x3, _⟩ := DataW.trod_int Tryz.underlying3 g3
  simp [Tryz.cI, Tryz.cF, Tryz.cS] at e0 e1 e2 e3
  subst e0 e1 e2 e3
  rw [hxx] at hx
  simp only [List.map_cons, List.map_nil, x0, x1, x2, x3, patE] at hx
  injection hx with hx
  simp only [List.cons.injEq, DataW.lit.injEq, Lit.string.injEq, Lit.int.injEq, and_true, true_and] at hx
  obtain ⟨h0, h1, h2, h3⟩ := hx
  have hs : s = P.1 := ByteArray.ext (Array.ext' h0)
  rw [hs, h1, h2, h3]

theorem rowkey : ∀ j (hj : j < patL.length), ∀ i, i < 4 → patF[4 * j + i]? = [Value.string patL[j].1, .int .i64 patL[j].2.1, .int .i64 patL[j].2.2.1, .int .i64 patL[j].2.2.2][i]? := by
  intro j hj i hi
  have hj2 : j < 21 := hj
  have hi2 : i = 0 ∨ i = 1 ∨ i = 2 ∨ i = 3 := by omega
  rcases pat_cases hj2 with rfl | rfl | rfl | rfl | rfl | rfl | rfl | rfl | rfl | rfl | rfl | rfl | rfl | rfl | rfl | rfl | rfl | rfl | rfl | rfl | rfl <;> rcases hi2 with rfl | rfl | rfl | rfl <;> rfl

theorem pat_cells {W : World} {sp : Nat → Bool} {held : Bool} {n : Nat} {cs : List Value} {p : List MemPlace} (h : DataW.trod (fun _ => ()) Tryz.prog W 0 sp held n 233 cs = some (Rows.laid_flowline_flow_patterns, p)) (j : Nat) (v : Value) (hj : patF[j]? = some v) : cs[j]? = some v := by
  obtain ⟨xs, m, _, hxx, hl, hxl, hf⟩ := DataW.trod_array Tryz.undP h
  rw [patD_eq] at hxx
  have hxs : patL.map patE = xs.map (·.1) := by
    have := (Prod.mk.inj hxx).1
    injection this
  have hj84 : j < 84 := by
    have := (List.getElem?_eq_some_iff.1 hj).1
    exact this
  have hi : j / 4 < 21 := by omega
  have hip : j / 4 < patL.length := hi
  have hix : j / 4 < xs.length := by omega
  have h1 := hf (j / 4) hi
  rw [List.getElem?_eq_getElem hix, Tryz.cPat] at h1
  have h2 : xs[j / 4].1 = patE patL[j / 4] := by
    have := congrArg (fun l => l[j / 4]?) hxs
    simp [hip, hix] at this
    exact this.symm
  have h3 := pat_row h1 h2
  have h4 : ((cs.drop (j / 4 * 4)).take 4)[j % 4]? = cs[j]? := by
    rw [List.getElem?_take_of_lt (Nat.mod_lt _ (by omega)), List.getElem?_drop]
    congr 1
    omega
  rw [← h4, h3, ← hj]
  have key := rowkey (j / 4) hip (j % 4) (Nat.mod_lt _ (by omega))
  rw [← key]
  congr 1
  omega
end Go.Proofs.YtdfkjgogdbeokaaGreatDoor
