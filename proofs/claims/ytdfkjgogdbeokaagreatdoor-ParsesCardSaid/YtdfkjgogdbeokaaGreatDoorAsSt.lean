/-
  DERIVED. errors.As at a sentinel that is none of what is asked for: false; three new blocks (reflectlite's own copies).
-/
import Derived.Test.YtdfkjgogdbeokaaGreatDoorAsB
namespace Go.Proofs.YtdfkjgogdbeokaaGreatDoor
open Go.RowKit Go.Extern.Stop Go.Stop Go.Extern


/-! ### the target St -/
theorem Tryz.vOfSt (t : Addr) (w : World) : (callFunc 105 #[.iface 170 (.pointer (some t))]).run Tryz.prog w
    = .ok (.value (.agg #[.pointer (some ⟨9, 170, none⟩), .pointer (some ⟨w.heap.size, 0, none⟩), .int .u64 150])) (w.alloc (.cells #[.pointer (some t)] 170)) := by kernel_rfl
theorem Tryz.vTypeSt (a : Addr) (w : World) : (callFunc 106 #[.agg #[.pointer (some ⟨9, 170, none⟩), .pointer (some a), .int .u64 150]]).run Tryz.prog w
    = .ok (.value (.iface 224 (.agg #[.pointer (some ⟨9, 170, none⟩)]))) w := by kernel_rfl
theorem Tryz.kindPSt (w : World) : (callFunc 138 #[.pointer (some ⟨9, 170, none⟩)]).run Tryz.prog w = .ok (.value (.int .u8 22)) w := by kernel_rfl
theorem Tryz.kindESt (w : World) : (callFunc 138 #[.pointer (some ⟨9, 168, none⟩)]).run Tryz.prog w = .ok (.value (.int .u8 22)) w := by kernel_rfl
theorem Tryz.partsSt (a : Addr) (w : World) : (ReflectliteValue.parts (.agg #[.pointer (some ⟨9, 170, none⟩), .pointer (some a), .int .u64 150])).run Tryz.prog w = .ok (some (170, a, 150)) w := by kernel_rfl
theorem Tryz.isNilSt (a p : Addr) (W : World) (ha : W.cell? a = some (.pointer (some p))) :
    (callFunc 107 #[.agg #[.pointer (some ⟨9, 170, none⟩), .pointer (some a), .int .u64 150]]).run Tryz.prog W = .ok (.value (.bool false)) W := by
  rw [@run_callFunc_extern Tryz.prog 107 _ (ReflectliteValue.method (ReflectliteValue.valueError "reflectlite.Value.IsNil" 0) ReflectliteValue.isNil) Tryz.func107 (by kernel_rfl) (by kernel_rfl) (by kernel_rfl) (by kernel_rfl), rlm]
  simp only [Sem.run_bind, Tryz.partsSt, Result.andThen]
  simp [ReflectliteValue.isNil, loadVar, isAgg, underlying, Tryz.underlying170, ha, Result.andThen]
theorem Tryz.tElemSt (w : World) : (callFunc 155 #[.agg #[.pointer (some ⟨9, 170, none⟩)]]).run Tryz.prog w = .ok (.value (.iface 224 (.agg #[.pointer (some ⟨9, 168, none⟩)]))) w := by kernel_rfl
theorem Tryz.implSt (w : World) : (callFunc 156 #[.agg #[.pointer (some ⟨9, 168, none⟩)], .iface 224 (.agg #[.pointer (some ⟨9, 99, none⟩)])]).run Tryz.prog w = .ok (.value (.bool true)) w := by kernel_rfl
theorem Tryz.assignSt (w : World) : (callFunc 153 #[.agg #[.pointer (some ⟨9, 241, none⟩)], .iface 224 (.agg #[.pointer (some ⟨9, 168, none⟩)])]).run Tryz.prog w = .ok (.value (.bool false)) w := by kernel_rfl

set_option maxHeartbeats 1000000 in
theorem as_missSt (e t : Addr) (w : World) (hg : w.cell? ⟨7, 0, none⟩ = some (.iface 224 (.agg #[.pointer (some ⟨9, 99, none⟩)]))) :
    Calls Tryz.prog 84 #[.iface 241 (.pointer (some e)), .iface 170 (.pointer (some t))] w fun ev w' => ev = .returned (.bool false) ∧ Below w.heap.size w w' := by
  have tO := Tryz.cTypeOf
  have mK := Tryz.mKind
  have mE := Tryz.mElem
  have mI := Tryz.mImpl
  have mA := Tryz.mAssign
  have f6 := Tryz.vOfSt
  have f7 := Tryz.vTypeSt
  have k1 := Tryz.kindPSt
  have k2 := Tryz.kindESt
  have e1 := Tryz.tElemSt
  have i1 := Tryz.implSt
  have as1 := Tryz.assignSt
  have nA := Tryz.noAsE
  have uE := Tryz.noUnwrapE
  have vE := Tryz.noUnwrapsE
  have n8 := Tryz.isNilSt ⟨w.heap.size, 0, none⟩ t ((w.alloc (.cells #[.pointer (some t)] 170)).alloc (.cells #[.pointer (some ⟨9, 170, none⟩), .pointer (some ⟨w.heap.size, 0, none⟩), .int .u64 150] 198)) (by simp)
  have hlt : 7 < w.heap.size := by
    rcases Nat.lt_or_ge 7 w.heap.size with h | h
    · exact h
    · simp [World.cell?, Array.getElem?_eq_none h] at hg
  have hg2 : ((w.alloc (.cells #[.pointer (some t)] 170)).alloc (.cells #[.pointer (some ⟨9, 170, none⟩), .pointer (some ⟨w.heap.size, 0, none⟩), .int .u64 150] 198)).cell? ⟨7, 0, none⟩ = some (.iface 224 (.agg #[.pointer (some ⟨9, 99, none⟩)])) := by
    rw [World.cell?_alloc_lt _ _ ⟨7, 0, none⟩ (by simp; omega), World.cell?_alloc_lt _ _ ⟨7, 0, none⟩ hlt]; exact hg
  go_enter Tryz.func84, Tryz.ntmps84
  go_wp2
  refine wp_loop_rounds 1 ?_
  rw [rounds_succ]
  go_wp2
  go_ret
  exact ⟨rfl, (((Below.refl _ _).alloc (Nat.le_refl _) _).alloc (by simp) _).alloc (by simp; omega) _⟩
end Go.Proofs.YtdfkjgogdbeokaaGreatDoor
