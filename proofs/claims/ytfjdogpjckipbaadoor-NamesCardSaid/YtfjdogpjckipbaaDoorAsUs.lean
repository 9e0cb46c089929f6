/-
  DERIVED. errors.As at a sentinel that is none of what is asked for: false; three new blocks (reflectlite's own copies).
-/
import Derived.Test.YtfjdogpjckipbaaDoorAsB
namespace Go.Proofs.YtfjdogpjckipbaaDoor
open Go.RowKit Go.Extern.Stop Go.Stop Go.Extern


/-! ### the target Us -/
theorem Tryd.vOfUs (t : Addr) (w : World) : (callFunc 49 #[.iface 134 (.pointer (some t))]).run Tryd.prog w
    = .ok (.value (.agg #[.pointer (some ⟨9, 134, none⟩), .pointer (some ⟨w.heap.size, 0, none⟩), .int .u64 150])) (w.alloc (.cells #[.pointer (some t)] 134)) := by kernel_rfl
theorem Tryd.vTypeUs (a : Addr) (w : World) : (callFunc 50 #[.agg #[.pointer (some ⟨9, 134, none⟩), .pointer (some a), .int .u64 150]]).run Tryd.prog w
    = .ok (.value (.iface 159 (.agg #[.pointer (some ⟨9, 134, none⟩)]))) w := by kernel_rfl
theorem Tryd.kindPUs (w : World) : (callFunc 71 #[.pointer (some ⟨9, 134, none⟩)]).run Tryd.prog w = .ok (.value (.int .u8 22)) w := by kernel_rfl
theorem Tryd.kindEUs (w : World) : (callFunc 71 #[.pointer (some ⟨9, 132, none⟩)]).run Tryd.prog w = .ok (.value (.int .u8 20)) w := by kernel_rfl
theorem Tryd.partsUs (a : Addr) (w : World) : (ReflectliteValue.parts (.agg #[.pointer (some ⟨9, 134, none⟩), .pointer (some a), .int .u64 150])).run Tryd.prog w = .ok (some (134, a, 150)) w := by kernel_rfl
theorem Tryd.isNilUs (a p : Addr) (W : World) (ha : W.cell? a = some (.pointer (some p))) :
    (callFunc 51 #[.agg #[.pointer (some ⟨9, 134, none⟩), .pointer (some a), .int .u64 150]]).run Tryd.prog W = .ok (.value (.bool false)) W := by
  rw [@run_callFunc_extern Tryd.prog 51 _ (ReflectliteValue.method (ReflectliteValue.valueError "reflectlite.Value.IsNil" 0) ReflectliteValue.isNil) Tryd.func51 (by kernel_rfl) (by kernel_rfl) (by kernel_rfl) (by kernel_rfl), rlm]
  simp only [Sem.run_bind, Tryd.partsUs, Result.andThen]
  simp [ReflectliteValue.isNil, loadVar, isAgg, underlying, Tryd.underlying134, ha, Result.andThen]
theorem Tryd.tElemUs (w : World) : (callFunc 98 #[.agg #[.pointer (some ⟨9, 134, none⟩)]]).run Tryd.prog w = .ok (.value (.iface 159 (.agg #[.pointer (some ⟨9, 132, none⟩)]))) w := by kernel_rfl

set_option maxHeartbeats 1000000 in
theorem as_missUs (e t : Addr) (w : World) (hg : w.cell? ⟨8, 0, none⟩ = some (.iface 159 (.agg #[.pointer (some ⟨9, 30, none⟩)]))) :
    Calls Tryd.prog 46 #[.iface 167 (.pointer (some e)), .iface 134 (.pointer (some t))] w fun ev w' => ev = .returned (.bool false) ∧ Below w.heap.size w w' := by
  have tO := Tryd.cTypeOf
  have mK := Tryd.mKind
  have mE := Tryd.mElem
  have mA := Tryd.mAssign
  have f6 := Tryd.vOfUs
  have f7 := Tryd.vTypeUs
  have k1 := Tryd.kindPUs
  have k2 := Tryd.kindEUs
  have e1 := Tryd.tElemUs
  have as1 := Tryd.assignUs
  have nA := Tryd.noAsE
  have uE := Tryd.noUnwrapE
  have vE := Tryd.noUnwrapsE
  have n8 := Tryd.isNilUs ⟨w.heap.size, 0, none⟩ t ((w.alloc (.cells #[.pointer (some t)] 134)).alloc (.cells #[.pointer (some ⟨9, 134, none⟩), .pointer (some ⟨w.heap.size, 0, none⟩), .int .u64 150] 148)) (by simp)
  have hlt : 8 < w.heap.size := by
    rcases Nat.lt_or_ge 8 w.heap.size with h | h
    · exact h
    · simp [World.cell?, Array.getElem?_eq_none h] at hg
  have hg2 : ((w.alloc (.cells #[.pointer (some t)] 134)).alloc (.cells #[.pointer (some ⟨9, 134, none⟩), .pointer (some ⟨w.heap.size, 0, none⟩), .int .u64 150] 148)).cell? ⟨8, 0, none⟩ = some (.iface 159 (.agg #[.pointer (some ⟨9, 30, none⟩)])) := by
    rw [World.cell?_alloc_lt _ _ ⟨8, 0, none⟩ (by simp; omega), World.cell?_alloc_lt _ _ ⟨8, 0, none⟩ hlt]; exact hg
  go_enter Tryd.func46, Tryd.ntmps46
  go_wp2
  refine wp_loop_rounds 1 ?_
  rw [rounds_succ]
  go_wp2
  go_ret
  exact ⟨rfl, (((Below.refl _ _).alloc (Nat.le_refl _) _).alloc (by simp) _).alloc (by simp; omega) _⟩
end Go.Proofs.YtfjdogpjckipbaaDoor
