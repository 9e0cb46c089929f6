/-
  DERIVED. errors.As at a sentinel that is none of what is asked for: false; three new blocks (reflectlite's own copies).
-/
import Derived.Test.YtdfkjgogdbeokaaDoorAsB
namespace Go.Proofs.YtdfkjgogdbeokaaDoor
open Go.RowKit Go.Extern.Stop Go.Stop Go.Extern


/-! ### the target St -/
theorem Tryd.vOfSt (t : Addr) (w : World) : (callFunc 31 #[.iface 69 (.pointer (some t))]).run Tryd.prog w
    = .ok (.value (.agg #[.pointer (some ⟨9, 69, none⟩), .pointer (some ⟨w.heap.size, 0, none⟩), .int .u64 150])) (w.alloc (.cells #[.pointer (some t)] 69)) := by kernel_rfl
theorem Tryd.vTypeSt (a : Addr) (w : World) : (callFunc 32 #[.agg #[.pointer (some ⟨9, 69, none⟩), .pointer (some a), .int .u64 150]]).run Tryd.prog w
    = .ok (.value (.iface 125 (.agg #[.pointer (some ⟨9, 69, none⟩)]))) w := by kernel_rfl
theorem Tryd.kindPSt (w : World) : (callFunc 69 #[.pointer (some ⟨9, 69, none⟩)]).run Tryd.prog w = .ok (.value (.int .u8 22)) w := by kernel_rfl
theorem Tryd.kindESt (w : World) : (callFunc 69 #[.pointer (some ⟨9, 67, none⟩)]).run Tryd.prog w = .ok (.value (.int .u8 22)) w := by kernel_rfl
theorem Tryd.partsSt (a : Addr) (w : World) : (ReflectliteValue.parts (.agg #[.pointer (some ⟨9, 69, none⟩), .pointer (some a), .int .u64 150])).run Tryd.prog w = .ok (some (69, a, 150)) w := by kernel_rfl
theorem Tryd.isNilSt (a p : Addr) (W : World) (ha : W.cell? a = some (.pointer (some p))) :
    (callFunc 33 #[.agg #[.pointer (some ⟨9, 69, none⟩), .pointer (some a), .int .u64 150]]).run Tryd.prog W = .ok (.value (.bool false)) W := by
  rw [@run_callFunc_extern Tryd.prog 33 _ (ReflectliteValue.method (ReflectliteValue.valueError "reflectlite.Value.IsNil" 0) ReflectliteValue.isNil) Tryd.func33 (by kernel_rfl) (by kernel_rfl) (by kernel_rfl) (by kernel_rfl), rlm]
  simp only [Sem.run_bind, Tryd.partsSt, Result.andThen]
  simp [ReflectliteValue.isNil, loadVar, isAgg, underlying, Tryd.underlying69, ha, Result.andThen]
theorem Tryd.tElemSt (w : World) : (callFunc 85 #[.agg #[.pointer (some ⟨9, 69, none⟩)]]).run Tryd.prog w = .ok (.value (.iface 125 (.agg #[.pointer (some ⟨9, 67, none⟩)]))) w := by kernel_rfl
theorem Tryd.implSt (w : World) : (callFunc 86 #[.agg #[.pointer (some ⟨9, 67, none⟩)], .iface 125 (.agg #[.pointer (some ⟨9, 30, none⟩)])]).run Tryd.prog w = .ok (.value (.bool true)) w := by kernel_rfl
theorem Tryd.assignSt (w : World) : (callFunc 83 #[.agg #[.pointer (some ⟨9, 153, none⟩)], .iface 125 (.agg #[.pointer (some ⟨9, 67, none⟩)])]).run Tryd.prog w = .ok (.value (.bool false)) w := by kernel_rfl

set_option maxHeartbeats 1000000 in
theorem as_missSt (e t : Addr) (w : World) (hg : w.cell? ⟨7, 0, none⟩ = some (.iface 125 (.agg #[.pointer (some ⟨9, 30, none⟩)]))) :
    Calls Tryd.prog 21 #[.iface 153 (.pointer (some e)), .iface 69 (.pointer (some t))] w fun ev w' => ev = .returned (.bool false) ∧ Below w.heap.size w w' := by
  have tO := Tryd.cTypeOf
  have mK := Tryd.mKind
  have mE := Tryd.mElem
  have mI := Tryd.mImpl
  have mA := Tryd.mAssign
  have f6 := Tryd.vOfSt
  have f7 := Tryd.vTypeSt
  have k1 := Tryd.kindPSt
  have k2 := Tryd.kindESt
  have e1 := Tryd.tElemSt
  have i1 := Tryd.implSt
  have as1 := Tryd.assignSt
  have nA := Tryd.noAsE
  have uE := Tryd.noUnwrapE
  have vE := Tryd.noUnwrapsE
  have n8 := Tryd.isNilSt ⟨w.heap.size, 0, none⟩ t ((w.alloc (.cells #[.pointer (some t)] 69)).alloc (.cells #[.pointer (some ⟨9, 69, none⟩), .pointer (some ⟨w.heap.size, 0, none⟩), .int .u64 150] 96)) (by simp)
  have hlt : 7 < w.heap.size := by
    rcases Nat.lt_or_ge 7 w.heap.size with h | h
    · exact h
    · simp [World.cell?, Array.getElem?_eq_none h] at hg
  have hg2 : ((w.alloc (.cells #[.pointer (some t)] 69)).alloc (.cells #[.pointer (some ⟨9, 69, none⟩), .pointer (some ⟨w.heap.size, 0, none⟩), .int .u64 150] 96)).cell? ⟨7, 0, none⟩ = some (.iface 125 (.agg #[.pointer (some ⟨9, 30, none⟩)])) := by
    rw [World.cell?_alloc_lt _ _ ⟨7, 0, none⟩ (by simp; omega), World.cell?_alloc_lt _ _ ⟨7, 0, none⟩ hlt]; exact hg
  go_enter Tryd.func21, Tryd.ntmps21
  go_wp2
  refine wp_loop_rounds 1 ?_
  rw [rounds_succ]
  go_wp2
  go_ret
  exact ⟨rfl, (((Below.refl _ _).alloc (Nat.le_refl _) _).alloc (by simp) _).alloc (by simp; omega) _⟩
end Go.Proofs.YtdfkjgogdbeokaaDoor
