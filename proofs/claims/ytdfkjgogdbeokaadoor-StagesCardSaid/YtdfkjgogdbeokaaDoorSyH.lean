/-
  DERIVED. errors.As at a *SyntaxError: no *StageError; the *SyntaxError itself.
-/
import Derived.Test.YtdfkjgogdbeokaaDoorSyE
import Derived.Test.YtdfkjgogdbeokaaDoorWrap
namespace Go.Proofs.YtdfkjgogdbeokaaDoor
open Go.RowKit Go.Extern.Stop Go.Stop Go.Extern

set_option maxHeartbeats 2000000 in
theorem as_missStY {a : Nat → Addr} {w : World} (h : Sents a w) (e t : Addr) :
    Calls Tryd.prog 21 #[.iface 72 (.pointer (some e)), .iface 69 (.pointer (some t))] w fun ev w' => ev = .returned (.bool false) ∧ Below w.heap.size w w' := by
  have tO := Tryd.cTypeOf
  have tY := Tryd.yTypeOf
  have mK := Tryd.mKind
  have mE := Tryd.mElem
  have mI := Tryd.mImpl
  have mA := Tryd.mAssign
  have f6 := Tryd.vOfSt
  have f7 := Tryd.vTypeSt
  have k1 := Tryd.kindPSt
  have k2 := Tryd.kindESt
  have e1 := Tryd.tElemSt
  have i1 := Tryd.implSt
  have as1 := Tryd.assignSt
  have as2 := Tryd.assignStY
  have nA := Tryd.noAsE
  have nY := Tryd.noAsY
  have uE := Tryd.noUnwrapE
  have vE := Tryd.noUnwrapsE
  have uY := Tryd.unY
  have mY := Tryd.mUnY
  have n8 := Tryd.isNilSt ⟨w.heap.size, 0, none⟩ t ((w.alloc (.cells #[.pointer (some t)] 69)).alloc (.cells #[.pointer (some ⟨9, 69, none⟩), .pointer (some ⟨w.heap.size, 0, none⟩), .int .u64 150] 96)) (by simp)
  have h1 := (h.alloc (.cells #[.pointer (some t)] 69)).alloc (.cells #[.pointer (some ⟨9, 69, none⟩), .pointer (some ⟨w.heap.size, 0, none⟩), .int .u64 150] 96)
  have h2 := h1.alloc (.cells #[.pointer (some ⟨9, 69, none⟩), .pointer (some ⟨w.heap.size, 0, none⟩), .int .u64 150] 96)
  have hg2 : ((w.alloc (.cells #[.pointer (some t)] 69)).alloc (.cells #[.pointer (some ⟨9, 69, none⟩), .pointer (some ⟨w.heap.size, 0, none⟩), .int .u64 150] 96)).cell? ⟨7, 0, none⟩ = some (.iface 125 (.agg #[.pointer (some ⟨9, 30, none⟩)])) := h1.et
  have c0 : (((w.alloc (.cells #[.pointer (some t)] 69)).alloc (.cells #[.pointer (some ⟨9, 69, none⟩), .pointer (some ⟨w.heap.size, 0, none⟩), .int .u64 150] 96)).alloc (.cells #[.pointer (some ⟨9, 69, none⟩), .pointer (some ⟨w.heap.size, 0, none⟩), .int .u64 150] 96)).cell? ⟨0, 0, none⟩ = some (.iface 153 (.pointer (some (a 0)))) := h2.cell 0 (by omega)
  go_enter Tryd.func21, Tryd.ntmps21
  go_wp2
  refine wp_loop_rounds 2 ?_
  rw [rounds_succ]
  go_wp2
  rw [rounds_succ]
  go_wp2
  go_ret
  exact ⟨rfl, (((Below.refl _ _).alloc (Nat.le_refl _) _).alloc (by simp) _).alloc (by simp; omega) _⟩

theorem Tryd.vOfY (e : Addr) (w : World) : (callFunc 31 #[.iface 72 (.pointer (some e))]).run Tryd.prog w
    = .ok (.value (.agg #[.pointer (some ⟨9, 72, none⟩), .pointer (some ⟨w.heap.size, 0, none⟩), .int .u64 150])) (w.alloc (.cells #[.pointer (some e)] 72)) := by kernel_rfl
theorem Tryd.elemOfSy (w : World) : (Rtype.elem? 73).run Tryd.prog w = .ok (some 72) w := by kernel_rfl
theorem Tryd.mkY (p : Addr) (w : World) : (ReflectliteValue.mk 72 p ReflectliteValue.flagAddr).run Tryd.prog w = .ok (.agg #[.pointer (some ⟨9, 72, none⟩), .pointer (some p), .int .u64 406]) w := by kernel_rfl
theorem Tryd.elemY (a p : Addr) (W : World) (ha : W.cell? a = some (.pointer (some p))) :
    (callFunc 43 #[.agg #[.pointer (some ⟨9, 73, none⟩), .pointer (some a), .int .u64 150]]).run Tryd.prog W
      = .ok (.value (.agg #[.pointer (some ⟨9, 72, none⟩), .pointer (some p), .int .u64 406])) W := by
  rw [@run_callFunc_extern Tryd.prog 43 _ (ReflectliteValue.method (ReflectliteValue.valueError "reflectlite.Value.Elem" 0) ReflectliteValue.elem) Tryd.func43 (by kernel_rfl) (by kernel_rfl) (by kernel_rfl) (by kernel_rfl), rlm]
  simp only [Sem.run_bind, Tryd.partsSy, Result.andThen]
  simp [ReflectliteValue.elem, loadVar, isAgg, underlying, Tryd.underlying73, ha, Result.andThen, Tryd.elemOfSy, Tryd.mkY]
theorem m3Y {m : Array Value → Sort _} (v x : Value) (f : (v x : Value) → m #[v, x]) (g : (y : Array Value) → m y) : ReflectliteValue.set.match_3 m #[v, x] f g = f v x := rfl
theorem Tryd.partsYa (a : Addr) (w : World) : (ReflectliteValue.parts (.agg #[.pointer (some ⟨9, 72, none⟩), .pointer (some a), .int .u64 406])).run Tryd.prog w = .ok (some (72, a, 406)) w := by kernel_rfl
theorem Tryd.partsYb (a : Addr) (w : World) : (ReflectliteValue.parts (.agg #[.pointer (some ⟨9, 72, none⟩), .pointer (some a), .int .u64 150])).run Tryd.prog w = .ok (some (72, a, 150)) w := by kernel_rfl
theorem Tryd.directY (w : World) : (Rtype.directlyAssignable 72 72).run Tryd.prog w = .ok true w := by kernel_rfl
theorem Tryd.sizeY (w : World) : (sizeOf 72).run Tryd.prog w = .ok 1 w := by kernel_rfl
theorem Tryd.setY (ta b e : Addr) (old : Value) (W : World) (hb : W.cell? b = some (.pointer (some e))) (ht : W.cell? ta = some old) (hf : W.frozen? ta = false) :
    (callFunc 44 #[.agg #[.pointer (some ⟨9, 72, none⟩), .pointer (some ta), .int .u64 406], .agg #[.pointer (some ⟨9, 72, none⟩), .pointer (some b), .int .u64 150]]).run Tryd.prog W
      = .ok (.value (.tuple #[])) (W.setCell ta (.pointer (some e))) := by
  rw [@run_callFunc_extern Tryd.prog 44 _ ReflectliteValue.set Tryd.func44 (by kernel_rfl) (by kernel_rfl) (by kernel_rfl) (by kernel_rfl)]
  delta ReflectliteValue.set
  rw [m3Y]
  simp only [Sem.run_bind, Tryd.partsYa, Tryd.partsYb, Result.andThen]
  simp [ReflectliteValue.flagAddr, loadVar, isAgg, underlying, Tryd.underlying72, hb, Result.andThen, Tryd.directY, storeVar, Value.cells, storeCells, Addr.add]
  rw [run_store Tryd.prog W ta _ _ (by rfl)]
  simp [ht, hf]

set_option maxHeartbeats 4000000 in
theorem as_hitSyY (e t : Addr) (old : Value) (w : World) (hg : EtCell w) (ht0 : w.cell? t = some old) (hf0 : w.frozen? t = false) :
    Calls Tryd.prog 21 #[.iface 72 (.pointer (some e)), .iface 73 (.pointer (some t))] w fun ev w' => ev = .returned (.bool true) ∧ w' = ((((w.alloc (.cells #[.pointer (some t)] 73)).alloc (.cells #[.pointer (some ⟨9, 73, none⟩), .pointer (some ⟨w.heap.size, 0, none⟩), .int .u64 150] 96)).alloc (.cells #[.pointer (some ⟨9, 73, none⟩), .pointer (some ⟨w.heap.size, 0, none⟩), .int .u64 150] 96)).alloc (.cells #[.pointer (some e)] 72)).setCell t (.pointer (some e)) := by
  have tY := Tryd.yTypeOf
  have mK := Tryd.mKind
  have mE := Tryd.mElem
  have mI := Tryd.mImpl
  have mA := Tryd.mAssign
  have f6 := Tryd.vOfSy
  have f7 := Tryd.vTypeSy
  have k1 := Tryd.kindPSy
  have k2 := Tryd.kindESy
  have e1 := Tryd.tElemSy
  have i1 := Tryd.implSy
  have as2 := Tryd.assignSyY
  have vY := Tryd.vOfY
  have n8 := Tryd.isNilSy ⟨w.heap.size, 0, none⟩ t ((w.alloc (.cells #[.pointer (some t)] 73)).alloc (.cells #[.pointer (some ⟨9, 73, none⟩), .pointer (some ⟨w.heap.size, 0, none⟩), .int .u64 150] 96)) (by simp)
  have hg2 : ((w.alloc (.cells #[.pointer (some t)] 73)).alloc (.cells #[.pointer (some ⟨9, 73, none⟩), .pointer (some ⟨w.heap.size, 0, none⟩), .int .u64 150] 96)).cell? ⟨7, 0, none⟩ = some (.iface 125 (.agg #[.pointer (some ⟨9, 30, none⟩)])) := (hg.alloc _).alloc _
  have htl : t.block < w.heap.size := by
    rcases Nat.lt_or_ge t.block w.heap.size with h | h
    · exact h
    · simp [World.cell?, Array.getElem?_eq_none h] at ht0
  have el := Tryd.elemY ⟨w.heap.size, 0, none⟩ t (((w.alloc (.cells #[.pointer (some t)] 73)).alloc (.cells #[.pointer (some ⟨9, 73, none⟩), .pointer (some ⟨w.heap.size, 0, none⟩), .int .u64 150] 96)).alloc (.cells #[.pointer (some ⟨9, 73, none⟩), .pointer (some ⟨w.heap.size, 0, none⟩), .int .u64 150] 96)) (by rw [World.cell?_alloc_lt _ _ ⟨w.heap.size, 0, none⟩ (by simp; omega)]; simp)
  have st := Tryd.setY t ⟨w.heap.size + 1 + 1 + 1, 0, none⟩ e old ((((w.alloc (.cells #[.pointer (some t)] 73)).alloc (.cells #[.pointer (some ⟨9, 73, none⟩), .pointer (some ⟨w.heap.size, 0, none⟩), .int .u64 150] 96)).alloc (.cells #[.pointer (some ⟨9, 73, none⟩), .pointer (some ⟨w.heap.size, 0, none⟩), .int .u64 150] 96)).alloc (.cells #[.pointer (some e)] 72))
    (by rw [World.cell?_alloc_at _ _ _ _ (by simp)]; rfl)
    (by rw [World.cell?_alloc_lt _ _ t (by simp; omega), World.cell?_alloc_lt _ _ t (by simp; omega), World.cell?_alloc_lt _ _ t (by simp; omega), World.cell?_alloc_lt _ _ t htl]; exact ht0)
    (by rw [World.frozen?_alloc_old _ _ t (by simp; omega), World.frozen?_alloc_old _ _ t (by simp; omega), World.frozen?_alloc_old _ _ t (by simp; omega), World.frozen?_alloc_old _ _ t (Nat.ne_of_lt htl)]; exact hf0)
  go_enter Tryd.func21, Tryd.ntmps21
  go_wp2
  refine wp_loop_rounds 1 ?_
  rw [rounds_succ]
  go_wp2
  go_ret
  exact ⟨rfl, rfl⟩
end Go.Proofs.YtdfkjgogdbeokaaDoor
