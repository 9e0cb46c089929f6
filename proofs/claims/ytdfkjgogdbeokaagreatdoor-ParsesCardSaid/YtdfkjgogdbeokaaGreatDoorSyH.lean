/-
  DERIVED. errors.As at a *SyntaxError: no *StageError; the *SyntaxError itself.
-/
import Derived.Test.YtdfkjgogdbeokaaGreatDoorSyE
import Derived.Test.YtdfkjgogdbeokaaGreatDoorWrap
namespace Go.Proofs.YtdfkjgogdbeokaaGreatDoor
open Go.RowKit Go.Extern.Stop Go.Stop Go.Extern

set_option maxHeartbeats 2000000 in
theorem as_missStY {a : Nat → Addr} {w : World} (h : Sents a w) (e t : Addr) :
    Calls Tryz.prog 84 #[.iface 149 (.pointer (some e)), .iface 170 (.pointer (some t))] w fun ev w' => ev = .returned (.bool false) ∧ Below w.heap.size w w' := by
  have tO := Tryz.cTypeOf
  have tY := Tryz.yTypeOf
  have mK := Tryz.mKind
  have mE := Tryz.mElem
  have mI := Tryz.mImpl
  have mA := Tryz.mAssign
  have f6 := Tryz.vOfSt
  have f7 := Tryz.vTypeSt
  have k1 := Tryz.kindPSt
  have k2 := Tryz.kindESt
  have e1 := Tryz.tElemSt
  have i1 := Tryz.implSt
  have as1 := Tryz.assignSt
  have as2 := Tryz.assignStY
  have nA := Tryz.noAsE
  have nY := Tryz.noAsY
  have uE := Tryz.noUnwrapE
  have vE := Tryz.noUnwrapsE
  have uY := Tryz.unY
  have mY := Tryz.mUnY
  have n8 := Tryz.isNilSt ⟨w.heap.size, 0, none⟩ t ((w.alloc (.cells #[.pointer (some t)] 170)).alloc (.cells #[.pointer (some ⟨9, 170, none⟩), .pointer (some ⟨w.heap.size, 0, none⟩), .int .u64 150] 198)) (by simp)
  have h1 := (h.alloc (.cells #[.pointer (some t)] 170)).alloc (.cells #[.pointer (some ⟨9, 170, none⟩), .pointer (some ⟨w.heap.size, 0, none⟩), .int .u64 150] 198)
  have h2 := h1.alloc (.cells #[.pointer (some ⟨9, 170, none⟩), .pointer (some ⟨w.heap.size, 0, none⟩), .int .u64 150] 198)
  have hg2 : ((w.alloc (.cells #[.pointer (some t)] 170)).alloc (.cells #[.pointer (some ⟨9, 170, none⟩), .pointer (some ⟨w.heap.size, 0, none⟩), .int .u64 150] 198)).cell? ⟨7, 0, none⟩ = some (.iface 224 (.agg #[.pointer (some ⟨9, 99, none⟩)])) := h1.et
  have c0 : (((w.alloc (.cells #[.pointer (some t)] 170)).alloc (.cells #[.pointer (some ⟨9, 170, none⟩), .pointer (some ⟨w.heap.size, 0, none⟩), .int .u64 150] 198)).alloc (.cells #[.pointer (some ⟨9, 170, none⟩), .pointer (some ⟨w.heap.size, 0, none⟩), .int .u64 150] 198)).cell? ⟨2, 0, none⟩ = some (.iface 241 (.pointer (some (a 0)))) := h2.cell 0 (by omega)
  go_enter Tryz.func84, Tryz.ntmps84
  go_wp2
  refine wp_loop_rounds 2 ?_
  rw [rounds_succ]
  go_wp2
  rw [rounds_succ]
  go_wp2
  go_ret
  exact ⟨rfl, (((Below.refl _ _).alloc (Nat.le_refl _) _).alloc (by simp) _).alloc (by simp; omega) _⟩

theorem Tryz.vOfY (e : Addr) (w : World) : (callFunc 105 #[.iface 149 (.pointer (some e))]).run Tryz.prog w
    = .ok (.value (.agg #[.pointer (some ⟨9, 149, none⟩), .pointer (some ⟨w.heap.size, 0, none⟩), .int .u64 150])) (w.alloc (.cells #[.pointer (some e)] 149)) := by kernel_rfl
theorem Tryz.elemOfSy (w : World) : (Rtype.elem? 173).run Tryz.prog w = .ok (some 149) w := by kernel_rfl
theorem Tryz.mkY (p : Addr) (w : World) : (ReflectliteValue.mk 149 p ReflectliteValue.flagAddr).run Tryz.prog w = .ok (.agg #[.pointer (some ⟨9, 149, none⟩), .pointer (some p), .int .u64 406]) w := by kernel_rfl
theorem Tryz.elemY (a p : Addr) (W : World) (ha : W.cell? a = some (.pointer (some p))) :
    (callFunc 119 #[.agg #[.pointer (some ⟨9, 173, none⟩), .pointer (some a), .int .u64 150]]).run Tryz.prog W
      = .ok (.value (.agg #[.pointer (some ⟨9, 149, none⟩), .pointer (some p), .int .u64 406])) W := by
  rw [@run_callFunc_extern Tryz.prog 119 _ (ReflectliteValue.method (ReflectliteValue.valueError "reflectlite.Value.Elem" 0) ReflectliteValue.elem) Tryz.func119 (by kernel_rfl) (by kernel_rfl) (by kernel_rfl) (by kernel_rfl), rlm]
  simp only [Sem.run_bind, Tryz.partsSy, Result.andThen]
  simp [ReflectliteValue.elem, loadVar, isAgg, underlying, Tryz.underlying173, ha, Result.andThen, Tryz.elemOfSy, Tryz.mkY]
theorem m3Y {m : Array Value → Sort _} (v x : Value) (f : (v x : Value) → m #[v, x]) (g : (y : Array Value) → m y) : ReflectliteValue.set.match_3 m #[v, x] f g = f v x := rfl
theorem Tryz.partsYa (a : Addr) (w : World) : (ReflectliteValue.parts (.agg #[.pointer (some ⟨9, 149, none⟩), .pointer (some a), .int .u64 406])).run Tryz.prog w = .ok (some (149, a, 406)) w := by kernel_rfl
theorem Tryz.partsYb (a : Addr) (w : World) : (ReflectliteValue.parts (.agg #[.pointer (some ⟨9, 149, none⟩), .pointer (some a), .int .u64 150])).run Tryz.prog w = .ok (some (149, a, 150)) w := by kernel_rfl
theorem Tryz.directY (w : World) : (Rtype.directlyAssignable 149 149).run Tryz.prog w = .ok true w := by kernel_rfl
theorem Tryz.sizeY (w : World) : (sizeOf 149).run Tryz.prog w = .ok 1 w := by kernel_rfl
theorem Tryz.setY (ta b e : Addr) (old : Value) (W : World) (hb : W.cell? b = some (.pointer (some e))) (ht : W.cell? ta = some old) (hf : W.frozen? ta = false) :
    (callFunc 120 #[.agg #[.pointer (some ⟨9, 149, none⟩), .pointer (some ta), .int .u64 406], .agg #[.pointer (some ⟨9, 149, none⟩), .pointer (some b), .int .u64 150]]).run Tryz.prog W
      = .ok (.value (.tuple #[])) (W.setCell ta (.pointer (some e))) := by
  rw [@run_callFunc_extern Tryz.prog 120 _ ReflectliteValue.set Tryz.func120 (by kernel_rfl) (by kernel_rfl) (by kernel_rfl) (by kernel_rfl)]
  delta ReflectliteValue.set
  rw [m3Y]
  simp only [Sem.run_bind, Tryz.partsYa, Tryz.partsYb, Result.andThen]
  simp [ReflectliteValue.flagAddr, loadVar, isAgg, underlying, Tryz.underlying149, hb, Result.andThen, Tryz.directY, storeVar, Value.cells, storeCells, Addr.add]
  rw [run_store Tryz.prog W ta _ _ (by rfl)]
  simp [ht, hf]

set_option maxHeartbeats 4000000 in
theorem as_hitSyY (e t : Addr) (old : Value) (w : World) (hg : EtCell w) (ht0 : w.cell? t = some old) (hf0 : w.frozen? t = false) :
    Calls Tryz.prog 84 #[.iface 149 (.pointer (some e)), .iface 173 (.pointer (some t))] w fun ev w' => ev = .returned (.bool true) ∧ w' = ((((w.alloc (.cells #[.pointer (some t)] 173)).alloc (.cells #[.pointer (some ⟨9, 173, none⟩), .pointer (some ⟨w.heap.size, 0, none⟩), .int .u64 150] 198)).alloc (.cells #[.pointer (some ⟨9, 173, none⟩), .pointer (some ⟨w.heap.size, 0, none⟩), .int .u64 150] 198)).alloc (.cells #[.pointer (some e)] 149)).setCell t (.pointer (some e)) := by
  have tY := Tryz.yTypeOf
  have mK := Tryz.mKind
  have mE := Tryz.mElem
  have mI := Tryz.mImpl
  have mA := Tryz.mAssign
  have f6 := Tryz.vOfSy
  have f7 := Tryz.vTypeSy
  have k1 := Tryz.kindPSy
  have k2 := Tryz.kindESy
  have e1 := Tryz.tElemSy
  have i1 := Tryz.implSy
  have as2 := Tryz.assignSyY
  have vY := Tryz.vOfY
  have n8 := Tryz.isNilSy ⟨w.heap.size, 0, none⟩ t ((w.alloc (.cells #[.pointer (some t)] 173)).alloc (.cells #[.pointer (some ⟨9, 173, none⟩), .pointer (some ⟨w.heap.size, 0, none⟩), .int .u64 150] 198)) (by simp)
  have hg2 : ((w.alloc (.cells #[.pointer (some t)] 173)).alloc (.cells #[.pointer (some ⟨9, 173, none⟩), .pointer (some ⟨w.heap.size, 0, none⟩), .int .u64 150] 198)).cell? ⟨7, 0, none⟩ = some (.iface 224 (.agg #[.pointer (some ⟨9, 99, none⟩)])) := (hg.alloc _).alloc _
  have htl : t.block < w.heap.size := by
    rcases Nat.lt_or_ge t.block w.heap.size with h | h
    · exact h
    · simp [World.cell?, Array.getElem?_eq_none h] at ht0
  have el := Tryz.elemY ⟨w.heap.size, 0, none⟩ t (((w.alloc (.cells #[.pointer (some t)] 173)).alloc (.cells #[.pointer (some ⟨9, 173, none⟩), .pointer (some ⟨w.heap.size, 0, none⟩), .int .u64 150] 198)).alloc (.cells #[.pointer (some ⟨9, 173, none⟩), .pointer (some ⟨w.heap.size, 0, none⟩), .int .u64 150] 198)) (by rw [World.cell?_alloc_lt _ _ ⟨w.heap.size, 0, none⟩ (by simp; omega)]; simp)
  have st := Tryz.setY t ⟨w.heap.size + 1 + 1 + 1, 0, none⟩ e old ((((w.alloc (.cells #[.pointer (some t)] 173)).alloc (.cells #[.pointer (some ⟨9, 173, none⟩), .pointer (some ⟨w.heap.size, 0, none⟩), .int .u64 150] 198)).alloc (.cells #[.pointer (some ⟨9, 173, none⟩), .pointer (some ⟨w.heap.size, 0, none⟩), .int .u64 150] 198)).alloc (.cells #[.pointer (some e)] 149))
    (by rw [World.cell?_alloc_at _ _ _ _ (by simp)]; rfl)
    (by rw [World.cell?_alloc_lt _ _ t (by simp; omega), World.cell?_alloc_lt _ _ t (by simp; omega), World.cell?_alloc_lt _ _ t (by simp; omega), World.cell?_alloc_lt _ _ t htl]; exact ht0)
    (by rw [World.frozen?_alloc_old _ _ t (by simp; omega), World.frozen?_alloc_old _ _ t (by simp; omega), World.frozen?_alloc_old _ _ t (by simp; omega), World.frozen?_alloc_old _ _ t (Nat.ne_of_lt htl)]; exact hf0)
  go_enter Tryz.func84, Tryz.ntmps84
  go_wp2
  refine wp_loop_rounds 1 ?_
  rw [rounds_succ]
  go_wp2
  go_ret
  exact ⟨rfl, rfl⟩
end Go.Proofs.YtdfkjgogdbeokaaGreatDoor
