/-
  DERIVED. Package errors at a *SyntaxError of the code.
-/
import Derived.Test.YtdfkjgogdbeokaaGreatDoorAsSt
import Derived.Test.YtdfkjgogdbeokaaGreatDoorAsSy
import Derived.Test.YtdfkjgogdbeokaaGreatDoorNum
namespace Go.Proofs.YtdfkjgogdbeokaaGreatDoor
open Go.RowKit Go.Extern.Stop Go.Stop Go.Extern

theorem Tryz.yTypeOf (v : Value) (w : World) : (callFunc 109 #[.iface 149 v]).run Tryz.prog w = .ok (.value (.iface 224 (.agg #[.pointer (some ⟨9, 149, none⟩)]))) w := by kernel_rfl
theorem Tryz.noIsY (v : Value) (xT : TypeId) (w : World) : (Instr.typeAssert (.iface 149 v) xT 231 true).run Tryz.prog w = .ok (.tuple #[.nilIface, .bool false]) w := run_typeAssert_lacksB Tryz.underlying231 (by kernel_rfl) (by kernel_rfl) v xT w
theorem Tryz.noAsY (v : Value) (xT : TypeId) (w : World) : (Instr.typeAssert (.iface 149 v) xT 228 true).run Tryz.prog w = .ok (.tuple #[.nilIface, .bool false]) w := run_typeAssert_lacksB Tryz.underlying228 (by kernel_rfl) (by kernel_rfl) v xT w
theorem Tryz.unY (v : Value) (xT : TypeId) (w : World) : (Instr.typeAssert (.iface 149 v) xT 220 true).run Tryz.prog w = .ok (.tuple #[.iface 149 v, .bool true]) w := run_typeAssert_hasB Tryz.underlying220 (by kernel_rfl) v xT w
theorem Tryz.mUnY (v : Value) (w : World) : (Go.method 373 149 v "Unwrap").run Tryz.prog w = .ok (142, v) w := by kernel_rfl
theorem Tryz.assignStY (w : World) : (callFunc 153 #[.agg #[.pointer (some ⟨9, 149, none⟩)], .iface 224 (.agg #[.pointer (some ⟨9, 168, none⟩)])]).run Tryz.prog w = .ok (.value (.bool false)) w := by kernel_rfl
theorem Tryz.assignSyY (w : World) : (callFunc 153 #[.agg #[.pointer (some ⟨9, 149, none⟩)], .iface 224 (.agg #[.pointer (some ⟨9, 149, none⟩)])]).run Tryz.prog w = .ok (.value (.bool true)) w := by kernel_rfl
theorem eql_types {P : Program} {w : World} {ti t1 t2 : TypeId} {ms : Array (String × TypeId)} (v1 v2 : Value) (hi : P.underlying ti = some (.interface ms)) (hne : t1 ≠ t2) : (binOp .eql ti (.iface t1 v1) (.iface t2 v2)).run P w = .ok (.bool false) w := by
  have h : ∀ d : Nat, (Op.equalIn (d + 1) ti (.iface t1 v1) (.iface t2 v2)).run P w = .ok false w := fun d => by simp [Op.equalIn, run_underlying hi, hne]
  simp only [binOp]
  simp [Op.equal, Op.maxDepth, h 9999]

/-- errors.Unwrap of a *SyntaxError: ErrSyntax. -/
theorem unwrap_syn {a : Nat → Addr} {w : World} (h : Sents a w) (j : Addr) :
    Calls Tryz.prog 104 #[.iface 149 (.pointer (some j))] w fun e w' => e = .returned (.iface 241 (.pointer (some (a 0)))) ∧ w' = w := by
  have c0 : w.cell? ⟨2, 0, none⟩ = some (.iface 241 (.pointer (some (a 0)))) := h.cell 0 (by omega)
  have uY := Tryz.unY
  have mY := Tryz.mUnY
  go_enter Tryz.func104, Tryz.ntmps104
  go_wp2
  go_ret
  exact ⟨rfl, rfl⟩

set_option maxHeartbeats 1000000 in
/-- errors.Is of a *SyntaxError and ErrSyntax. -/
theorem is_syn {a : Nat → Addr} {w : World} (h : Sents a w) (j : Addr) :
    Calls Tryz.prog 86 #[.iface 149 (.pointer (some j)), .iface 241 (.pointer (some (a 0)))] w fun e w' => e = .returned (.bool true) ∧ w' = w := by
  obtain ⟨i, hi, hcmp⟩ := Option.map_eq_some_iff.1 Tryz.isComp
  obtain ⟨q, hj, hjs⟩ := Option.map_eq_some_iff.1 Tryz.isSize
  have c0 : w.cell? ⟨2, 0, none⟩ = some (.iface 241 (.pointer (some (a 0)))) := h.cell 0 (by omega)
  have tT := Tryz.cTypeOf
  have cT := Tryz.cComparable
  have mR := Tryz.isMethodComparable
  have nY := Tryz.noIsY
  have uY := Tryz.unY
  have mY := Tryz.mUnY
  have heq := run_eql_iface_ptr_same (P := Tryz.prog) w (a 0) Tryz.underlying99 Tryz.underlying241 hi hcmp hj
  have hne := eql_types (P := Tryz.prog) (w := w) (t1 := 149) (t2 := 241) (.pointer (some j)) (.pointer (some (a 0))) Tryz.underlying99 (by decide)
  go_enter Tryz.func86, Tryz.ntmps86
  go_wp2
  refine wp_loop_rounds 2 ?_
  rw [rounds_succ]
  go_wp2
  rw [rounds_succ]
  go_wp2
  go_ret
  exact ⟨rfl, rfl⟩
end Go.Proofs.YtdfkjgogdbeokaaGreatDoor
