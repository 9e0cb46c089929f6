/-
  DERIVED. Package errors at a *SyntaxError of the code.
-/
import Derived.Test.YtdfkjgogdbeokaaDoorAsSt
import Derived.Test.YtdfkjgogdbeokaaDoorAsSy
import Derived.Test.YtdfkjgogdbeokaaDoorNum
namespace Go.Proofs.YtdfkjgogdbeokaaDoor
open Go.RowKit Go.Extern.Stop Go.Stop Go.Extern

theorem Tryd.yTypeOf (v : Value) (w : World) : (callFunc 35 #[.iface 72 v]).run Tryd.prog w = .ok (.value (.iface 125 (.agg #[.pointer (some ⟨9, 72, none⟩)]))) w := by kernel_rfl
theorem Tryd.noIsY (v : Value) (xT : TypeId) (w : World) : (Instr.typeAssert (.iface 72 v) xT 132 true).run Tryd.prog w = .ok (.tuple #[.nilIface, .bool false]) w := run_typeAssert_lacksB Tryd.underlying132 (by kernel_rfl) (by kernel_rfl) v xT w
theorem Tryd.noAsY (v : Value) (xT : TypeId) (w : World) : (Instr.typeAssert (.iface 72 v) xT 129 true).run Tryd.prog w = .ok (.tuple #[.nilIface, .bool false]) w := run_typeAssert_lacksB Tryd.underlying129 (by kernel_rfl) (by kernel_rfl) v xT w
theorem Tryd.unY (v : Value) (xT : TypeId) (w : World) : (Instr.typeAssert (.iface 72 v) xT 121 true).run Tryd.prog w = .ok (.tuple #[.iface 72 v, .bool true]) w := run_typeAssert_hasB Tryd.underlying121 (by kernel_rfl) v xT w
theorem Tryd.mUnY (v : Value) (w : World) : (Go.method 287 72 v "Unwrap").run Tryd.prog w = .ok (76, v) w := by kernel_rfl
theorem Tryd.assignStY (w : World) : (callFunc 83 #[.agg #[.pointer (some ⟨9, 72, none⟩)], .iface 125 (.agg #[.pointer (some ⟨9, 67, none⟩)])]).run Tryd.prog w = .ok (.value (.bool false)) w := by kernel_rfl
theorem Tryd.assignSyY (w : World) : (callFunc 83 #[.agg #[.pointer (some ⟨9, 72, none⟩)], .iface 125 (.agg #[.pointer (some ⟨9, 72, none⟩)])]).run Tryd.prog w = .ok (.value (.bool true)) w := by kernel_rfl
theorem eql_types {P : Program} {w : World} {ti t1 t2 : TypeId} {ms : Array (String × TypeId)} (v1 v2 : Value) (hi : P.underlying ti = some (.interface ms)) (hne : t1 ≠ t2) : (binOp .eql ti (.iface t1 v1) (.iface t2 v2)).run P w = .ok (.bool false) w := by
  have h : ∀ d : Nat, (Op.equalIn (d + 1) ti (.iface t1 v1) (.iface t2 v2)).run P w = .ok false w := fun d => by simp [Op.equalIn, run_underlying hi, hne]
  simp only [binOp]
  simp [Op.equal, Op.maxDepth, h 9999]

/-- errors.Unwrap of a *SyntaxError: ErrSyntax. -/
theorem unwrap_syn {a : Nat → Addr} {w : World} (h : Sents a w) (j : Addr) :
    Calls Tryd.prog 30 #[.iface 72 (.pointer (some j))] w fun e w' => e = .returned (.iface 153 (.pointer (some (a 0)))) ∧ w' = w := by
  have c0 : w.cell? ⟨0, 0, none⟩ = some (.iface 153 (.pointer (some (a 0)))) := h.cell 0 (by omega)
  have uY := Tryd.unY
  have mY := Tryd.mUnY
  go_enter Tryd.func30, Tryd.ntmps30
  go_wp2
  go_ret
  exact ⟨rfl, rfl⟩

set_option maxHeartbeats 1000000 in
/-- errors.Is of a *SyntaxError and ErrSyntax. -/
theorem is_syn {a : Nat → Addr} {w : World} (h : Sents a w) (j : Addr) :
    Calls Tryd.prog 23 #[.iface 72 (.pointer (some j)), .iface 153 (.pointer (some (a 0)))] w fun e w' => e = .returned (.bool true) ∧ w' = w := by
  obtain ⟨i, hi, hcmp⟩ := Option.map_eq_some_iff.1 Tryd.isComp
  obtain ⟨q, hj, hjs⟩ := Option.map_eq_some_iff.1 Tryd.isSize
  have c0 : w.cell? ⟨0, 0, none⟩ = some (.iface 153 (.pointer (some (a 0)))) := h.cell 0 (by omega)
  have tT := Tryd.cTypeOf
  have cT := Tryd.cComparable
  have mR := Tryd.isMethodComparable
  have nY := Tryd.noIsY
  have uY := Tryd.unY
  have mY := Tryd.mUnY
  have heq := run_eql_iface_ptr_same (P := Tryd.prog) w (a 0) Tryd.underlying30 Tryd.underlying153 hi hcmp hj
  have hne := eql_types (P := Tryd.prog) (w := w) (t1 := 72) (t2 := 153) (.pointer (some j)) (.pointer (some (a 0))) Tryd.underlying30 (by decide)
  go_enter Tryd.func23, Tryd.ntmps23
  go_wp2
  refine wp_loop_rounds 2 ?_
  rw [rounds_succ]
  go_wp2
  rw [rounds_succ]
  go_wp2
  go_ret
  exact ⟨rfl, rfl⟩
end Go.Proofs.YtdfkjgogdbeokaaDoor
