/-
  DERIVED. errors.As at a sentinel that is none of what is asked for: false; three new blocks (reflectlite's own copies).
-/
import Derived.Test.YtfjdogpjckipbaaDoorAsU
namespace Go.Proofs.YtfjdogpjckipbaaDoor
open Go.RowKit Go.Extern.Stop Go.Stop Go.Extern

theorem Tryd.mKind (h : Value) (w : World) : (Go.method 329 159 (.agg #[h]) "Kind").run Tryd.prog w = .ok (71, h) w := by kernel_rfl
theorem Tryd.mElem (h : Value) (w : World) : (Go.method 329 159 (.agg #[h]) "Elem").run Tryd.prog w = .ok (98, .agg #[h]) w := by kernel_rfl
theorem Tryd.mImpl (h : Value) (w : World) : (Go.method 329 159 (.agg #[h]) "Implements").run Tryd.prog w = .ok (99, .agg #[h]) w := by kernel_rfl
theorem Tryd.mAssign (h : Value) (w : World) : (Go.method 329 159 (.agg #[h]) "AssignableTo").run Tryd.prog w = .ok (96, .agg #[h]) w := by kernel_rfl
theorem rlm (z : Sem Value) (f : TypeId → Addr → Nat → Nat → Sem Value) (v : Value) :
    ReflectliteValue.method z f #[v] = (do match ← ReflectliteValue.parts v with | none => z | some (t, a, fl) => f t a fl (fl % 32)) := rfl
end Go.Proofs.YtfjdogpjckipbaaDoor
