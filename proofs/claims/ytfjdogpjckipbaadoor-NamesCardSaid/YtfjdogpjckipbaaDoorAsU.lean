/-
  DERIVED. 'AssignableTo' at a sentinel's type and the interface of an Unwrap of many: false (the kernel alone does not come through: a missing method's name is picked by well-founded recursion).
-/
import Derived.Test.YtfjdogpjckipbaaDoorErr
namespace Go.Proofs.YtfjdogpjckipbaaDoor
open Go.RowKit Go.Extern.Stop Go.Stop Go.Extern

theorem relAssign (r x : Value) (t : TypeId) : ReflectliteType.relation "AssignableTo" ReflectliteType.assignableTo #[r, .iface t x] = (do pure (.bool (← ReflectliteType.assignableTo (← ReflectliteType.ofRtype x) (← ReflectliteType.ofRtype r)))) := rfl
theorem Tryd.ofR90 (w : World) : (ReflectliteType.ofRtype (.agg #[.pointer (some ⟨9, 132, none⟩)])).run Tryd.prog w = .ok 132 w := by kernel_rfl
theorem Tryd.ofR153 (w : World) : (ReflectliteType.ofRtype (.agg #[.pointer (some ⟨9, 167, none⟩)])).run Tryd.prog w = .ok 167 w := by kernel_rfl
theorem Tryd.np90 (s : String) (w : World) : (Rtype.noPackMethods s 132).run Tryd.prog w = .ok () w := by kernel_rfl
theorem Tryd.np153 (s : String) (w : World) : (Rtype.noPackMethods s 167).run Tryd.prog w = .ok () w := by kernel_rfl
theorem Tryd.dir90 (w : World) : (Rtype.directlyAssignable 132 167).run Tryd.prog w = .ok false w := by kernel_rfl
theorem Tryd.un90 (w : World) : ((Rtype.under 132).run Tryd.prog w).andThen (fun x w' => .ok x.2.desc w') = .ok (.interface #[("Unwrap", 135)]) w := by kernel_rfl
theorem Tryd.un153 (w : World) : ((Rtype.under 167).run Tryd.prog w).andThen (fun x w' => .ok x.2.desc w') = .ok (.pointer 195) w := by kernel_rfl
theorem Tryd.ti153 : (Tryd.prog.info? 167).map (fun i => (lacking #[("Unwrap", 135)] i.methods).isEmpty) = some false := by kernel_rfl

theorem desc_of {α : Type} {r : Result α} {f : α → TypeDesc} {d : TypeDesc} {w : World} (h : r.andThen (fun x w' => .ok (f x) w') = .ok d w) : ∃ x, r = .ok x w ∧ f x = d := by
  cases r <;> simp [Result.andThen] at h
  obtain ⟨h1, rfl⟩ := h
  exact ⟨_, rfl, h1⟩

theorem Tryd.impl90 (w : World) : (Rtype.implements 132 167).run Tryd.prog w = .ok false w := by
  obtain ⟨x, hx, hxd⟩ := desc_of (Tryd.un90 w)
  obtain ⟨y, hy, hyd⟩ := desc_of (Tryd.un153 w)
  obtain ⟨i, hi, hl⟩ := Option.map_eq_some_iff.1 Tryd.ti153
  obtain ⟨m, hm⟩ := missingMethod_some (want := #[("Unwrap", 135)]) (got := i.methods) (fun e => by rw [e] at hl; cases hl)
  unfold Rtype.implements
  simp [Sem.run_bind, Tryd.np90, Tryd.np153, hx, hy, hxd, hyd, Result.andThen, typeInfo, hi, hm]

theorem Tryd.assignUs (w : World) : (callFunc 96 #[.agg #[.pointer (some ⟨9, 167, none⟩)], .iface 159 (.agg #[.pointer (some ⟨9, 132, none⟩)])]).run Tryd.prog w = .ok (.value (.bool false)) w := by
  rw [@run_callFunc_extern Tryd.prog 96 _ (ReflectliteType.relation "AssignableTo" ReflectliteType.assignableTo) Tryd.func96 (by kernel_rfl) (by kernel_rfl) (by kernel_rfl) (by kernel_rfl), relAssign]
  simp [Sem.run_bind, Tryd.ofR90, Tryd.ofR153, ReflectliteType.assignableTo, Tryd.np90, Tryd.np153, Tryd.dir90, Tryd.impl90, Result.andThen]
end Go.Proofs.YtfjdogpjckipbaaDoor
