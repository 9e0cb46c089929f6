/-
  DERIVED. 'AssignableTo' at a sentinel's type and the interface of an Unwrap of many: false (the kernel alone does not come through: a missing method's name is picked by well-founded recursion).
-/
import Derived.Test.YtdfkjgogdbeokaaGreatDoorErr
namespace Go.Proofs.YtdfkjgogdbeokaaGreatDoor
open Go.RowKit Go.Extern.Stop Go.Stop Go.Extern

theorem relAssign (r x : Value) (t : TypeId) : ReflectliteType.relation "AssignableTo" ReflectliteType.assignableTo #[r, .iface t x] = (do pure (.bool (← ReflectliteType.assignableTo (← ReflectliteType.ofRtype x) (← ReflectliteType.ofRtype r)))) := rfl
theorem Tryz.ofR90 (w : World) : (ReflectliteType.ofRtype (.agg #[.pointer (some ⟨9, 192, none⟩)])).run Tryz.prog w = .ok 192 w := by kernel_rfl
theorem Tryz.ofR153 (w : World) : (ReflectliteType.ofRtype (.agg #[.pointer (some ⟨9, 241, none⟩)])).run Tryz.prog w = .ok 241 w := by kernel_rfl
theorem Tryz.np90 (s : String) (w : World) : (Rtype.noPackMethods s 192).run Tryz.prog w = .ok () w := by kernel_rfl
theorem Tryz.np153 (s : String) (w : World) : (Rtype.noPackMethods s 241).run Tryz.prog w = .ok () w := by kernel_rfl
theorem Tryz.dir90 (w : World) : (Rtype.directlyAssignable 192 241).run Tryz.prog w = .ok false w := by kernel_rfl
theorem Tryz.un90 (w : World) : ((Rtype.under 192).run Tryz.prog w).andThen (fun x w' => .ok x.2.desc w') = .ok (.interface #[("Unwrap", 194)]) w := by kernel_rfl
theorem Tryz.un153 (w : World) : ((Rtype.under 241).run Tryz.prog w).andThen (fun x w' => .ok x.2.desc w') = .ok (.pointer 261) w := by kernel_rfl
theorem Tryz.ti153 : (Tryz.prog.info? 241).map (fun i => (lacking #[("Unwrap", 194)] i.methods).isEmpty) = some false := by kernel_rfl

theorem desc_of {α : Type} {r : Result α} {f : α → TypeDesc} {d : TypeDesc} {w : World} (h : r.andThen (fun x w' => .ok (f x) w') = .ok d w) : ∃ x, r = .ok x w ∧ f x = d := by
  cases r <;> simp [Result.andThen] at h
  obtain ⟨h1, rfl⟩ := h
  exact ⟨_, rfl, h1⟩

theorem Tryz.impl90 (w : World) : (Rtype.implements 192 241).run Tryz.prog w = .ok false w := by
  obtain ⟨x, hx, hxd⟩ := desc_of (Tryz.un90 w)
  obtain ⟨y, hy, hyd⟩ := desc_of (Tryz.un153 w)
  obtain ⟨i, hi, hl⟩ := Option.map_eq_some_iff.1 Tryz.ti153
  obtain ⟨m, hm⟩ := missingMethod_some (want := #[("Unwrap", 194)]) (got := i.methods) (fun e => by rw [e] at hl; cases hl)
  unfold Rtype.implements
  simp [Sem.run_bind, Tryz.np90, Tryz.np153, hx, hy, hxd, hyd, Result.andThen, typeInfo, hi, hm]

theorem Tryz.assignUs (w : World) : (callFunc 153 #[.agg #[.pointer (some ⟨9, 241, none⟩)], .iface 224 (.agg #[.pointer (some ⟨9, 192, none⟩)])]).run Tryz.prog w = .ok (.value (.bool false)) w := by
  rw [@run_callFunc_extern Tryz.prog 153 _ (ReflectliteType.relation "AssignableTo" ReflectliteType.assignableTo) Tryz.func153 (by kernel_rfl) (by kernel_rfl) (by kernel_rfl) (by kernel_rfl), relAssign]
  simp [Sem.run_bind, Tryz.ofR90, Tryz.ofR153, ReflectliteType.assignableTo, Tryz.np90, Tryz.np153, Tryz.dir90, Tryz.impl90, Result.andThen]
end Go.Proofs.YtdfkjgogdbeokaaGreatDoor
