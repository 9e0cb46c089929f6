/-
  DERIVED. Name and At of the code's stages.
-/
import Derived.Test.YtdfkjgogdbeokaaGreatDoorCdRow
import Derived.Deep.MidRow
namespace Go.Proofs.YtdfkjgogdbeokaaGreatDoor
open Go.RowKit
theorem Tryz.undM : (Tryz.prog.underlying 161).map TypeDesc.isRow = some true := by kernel_rfl
theorem Tryz.sizeM : (Tryz.prog.info? 161).map (·.size) = some 2 := by kernel_rfl
theorem load_mark (k : Nat) (nm : ByteArray) (i : Int) (w : World) (h0 : w.cell? ⟨k, 0, none⟩ = some (.string nm)) (h1 : w.cell? ⟨k, 1, none⟩ = some (.int .i64 i)) : (loadVar 161 ⟨k, 0, none⟩).run Tryz.prog w = .ok (.agg #[.string nm, .int .i64 i]) w := by
  obtain ⟨d, hd, hr⟩ := Option.map_eq_some_iff.1 Tryz.undM
  have := run_loadVar_mid (P := Tryz.prog) w k 0 161 [.string nm, .int .i64 i] d (fun j v hv => by
    match j, hv with
    | 0, hv => cases hv; exact h0
    | 1, hv => cases hv; exact h1
    | j + 2, hv => simp at hv) hd hr Tryz.sizeM
  simpa using this
theorem meth_up {P : Program} {w : World} {fuel t k tm st f : Nat} {name : String} {i im : TypeInfo} {m : Method} {fs fs2 : Array Field} {fd : Field} {v : Value} (hi : P.info? t = some i) (hm : i.methods.find? (fun x => x.name == name) = some m) (hp : m.path.toList = [⟨st, 0, true⟩]) (hf : m.func = some (f, false))
    (hu : P.underlying st = some (.struct fs)) (h0 : fs[0]? = some fd) (hft : fd.type = tm) (hfo : fd.offset = 0) (him : P.info? tm = some im) (hsz : im.size = 2) (hum : P.underlying tm = some (.struct fs2))
    (hl : (loadVar tm ⟨k, 0, none⟩).run P w = .ok v w) : (Go.method (fuel + 1) t (.pointer (some ⟨k, 0, none⟩)) name).run P w = .ok (f, v) w := by
  rw [Go.method]
  simp [Sem.run_bind, typeInfo, hi, hm, hp, follow, run_underlying hu, h0, hf, Place.get, asAddr, fieldPlace, sizeOf, hft, him, hsz, hfo, receiverAt, run_underlying hum, hl, Addr.add, Result.andThen]
theorem Tryz.rName_simple : (Tryz.prog.info? 217).map (fun i => (i.methods.find? (fun x => x.name == "Name")).map (fun m => (m.path.toList, m.func))) = some (some ([⟨219, 0, true⟩], some (146, false))) := by kernel_rfl
theorem Tryz.rAt_simple : (Tryz.prog.info? 217).map (fun i => (i.methods.find? (fun x => x.name == "At")).map (fun m => (m.path.toList, m.func))) = some (some ([⟨219, 0, true⟩], some (145, false))) := by kernel_rfl
theorem Tryz.rName_fold : (Tryz.prog.info? 237).map (fun i => (i.methods.find? (fun x => x.name == "Name")).map (fun m => (m.path.toList, m.func))) = some (some ([⟨239, 0, true⟩], some (146, false))) := by kernel_rfl
theorem Tryz.rAt_fold : (Tryz.prog.info? 237).map (fun i => (i.methods.find? (fun x => x.name == "At")).map (fun m => (m.path.toList, m.func))) = some (some ([⟨239, 0, true⟩], some (145, false))) := by kernel_rfl
theorem Tryz.rName_both : (Tryz.prog.info? 159).map (fun i => (i.methods.find? (fun x => x.name == "Name")).map (fun m => (m.path.toList, m.func))) = some (some ([⟨163, 0, true⟩], some (146, false))) := by kernel_rfl
theorem Tryz.rAt_both : (Tryz.prog.info? 159).map (fun i => (i.methods.find? (fun x => x.name == "At")).map (fun m => (m.path.toList, m.func))) = some (some ([⟨163, 0, true⟩], some (145, false))) := by kernel_rfl
theorem Tryz.rName_par : (Tryz.prog.info? 164).map (fun i => (i.methods.find? (fun x => x.name == "Name")).map (fun m => (m.path.toList, m.func))) = some (some ([⟨166, 0, true⟩], some (146, false))) := by kernel_rfl
theorem Tryz.rAt_par : (Tryz.prog.info? 164).map (fun i => (i.methods.find? (fun x => x.name == "At")).map (fun m => (m.path.toList, m.func))) = some (some ([⟨166, 0, true⟩], some (145, false))) := by kernel_rfl
theorem Tryz.mName_simple (k : Nat) (nm : ByteArray) (n : Int) (w : World) (h0 : w.cell? ⟨k, 0, none⟩ = some (.string nm)) (h1 : w.cell? ⟨k, 1, none⟩ = some (.int .i64 n)) : (Go.method 373 217 (.pointer (some ⟨k, 0, none⟩)) "Name").run Tryz.prog w = .ok (146, .agg #[.string nm, .int .i64 n]) w := by
  obtain ⟨i, hi, hq⟩ := Option.map_eq_some_iff.1 Tryz.rName_simple
  obtain ⟨m, hm, hpf⟩ := Option.map_eq_some_iff.1 hq
  obtain ⟨im, him, hsz⟩ := Option.map_eq_some_iff.1 Tryz.sizeM
  obtain ⟨hp, hf⟩ := Prod.mk.inj hpf
  exact meth_up hi hm hp hf Tryz.underlying219 rfl rfl rfl him hsz Tryz.underlying161 (load_mark k nm n w h0 h1)
theorem Tryz.mAt_simple (k : Nat) (nm : ByteArray) (n : Int) (w : World) (h0 : w.cell? ⟨k, 0, none⟩ = some (.string nm)) (h1 : w.cell? ⟨k, 1, none⟩ = some (.int .i64 n)) : (Go.method 373 217 (.pointer (some ⟨k, 0, none⟩)) "At").run Tryz.prog w = .ok (145, .agg #[.string nm, .int .i64 n]) w := by
  obtain ⟨i, hi, hq⟩ := Option.map_eq_some_iff.1 Tryz.rAt_simple
  obtain ⟨m, hm, hpf⟩ := Option.map_eq_some_iff.1 hq
  obtain ⟨im, him, hsz⟩ := Option.map_eq_some_iff.1 Tryz.sizeM
  obtain ⟨hp, hf⟩ := Prod.mk.inj hpf
  exact meth_up hi hm hp hf Tryz.underlying219 rfl rfl rfl him hsz Tryz.underlying161 (load_mark k nm n w h0 h1)
theorem Tryz.mName_fold (k : Nat) (nm : ByteArray) (n : Int) (w : World) (h0 : w.cell? ⟨k, 0, none⟩ = some (.string nm)) (h1 : w.cell? ⟨k, 1, none⟩ = some (.int .i64 n)) : (Go.method 373 237 (.pointer (some ⟨k, 0, none⟩)) "Name").run Tryz.prog w = .ok (146, .agg #[.string nm, .int .i64 n]) w := by
  obtain ⟨i, hi, hq⟩ := Option.map_eq_some_iff.1 Tryz.rName_fold
  obtain ⟨m, hm, hpf⟩ := Option.map_eq_some_iff.1 hq
  obtain ⟨im, him, hsz⟩ := Option.map_eq_some_iff.1 Tryz.sizeM
  obtain ⟨hp, hf⟩ := Prod.mk.inj hpf
  exact meth_up hi hm hp hf Tryz.underlying239 rfl rfl rfl him hsz Tryz.underlying161 (load_mark k nm n w h0 h1)
theorem Tryz.mAt_fold (k : Nat) (nm : ByteArray) (n : Int) (w : World) (h0 : w.cell? ⟨k, 0, none⟩ = some (.string nm)) (h1 : w.cell? ⟨k, 1, none⟩ = some (.int .i64 n)) : (Go.method 373 237 (.pointer (some ⟨k, 0, none⟩)) "At").run Tryz.prog w = .ok (145, .agg #[.string nm, .int .i64 n]) w := by
  obtain ⟨i, hi, hq⟩ := Option.map_eq_some_iff.1 Tryz.rAt_fold
  obtain ⟨m, hm, hpf⟩ := Option.map_eq_some_iff.1 hq
  obtain ⟨im, him, hsz⟩ := Option.map_eq_some_iff.1 Tryz.sizeM
  obtain ⟨hp, hf⟩ := Prod.mk.inj hpf
  exact meth_up hi hm hp hf Tryz.underlying239 rfl rfl rfl him hsz Tryz.underlying161 (load_mark k nm n w h0 h1)
theorem Tryz.mName_both (k : Nat) (nm : ByteArray) (n : Int) (w : World) (h0 : w.cell? ⟨k, 0, none⟩ = some (.string nm)) (h1 : w.cell? ⟨k, 1, none⟩ = some (.int .i64 n)) : (Go.method 373 159 (.pointer (some ⟨k, 0, none⟩)) "Name").run Tryz.prog w = .ok (146, .agg #[.string nm, .int .i64 n]) w := by
  obtain ⟨i, hi, hq⟩ := Option.map_eq_some_iff.1 Tryz.rName_both
  obtain ⟨m, hm, hpf⟩ := Option.map_eq_some_iff.1 hq
  obtain ⟨im, him, hsz⟩ := Option.map_eq_some_iff.1 Tryz.sizeM
  obtain ⟨hp, hf⟩ := Prod.mk.inj hpf
  exact meth_up hi hm hp hf Tryz.underlying163 rfl rfl rfl him hsz Tryz.underlying161 (load_mark k nm n w h0 h1)
theorem Tryz.mAt_both (k : Nat) (nm : ByteArray) (n : Int) (w : World) (h0 : w.cell? ⟨k, 0, none⟩ = some (.string nm)) (h1 : w.cell? ⟨k, 1, none⟩ = some (.int .i64 n)) : (Go.method 373 159 (.pointer (some ⟨k, 0, none⟩)) "At").run Tryz.prog w = .ok (145, .agg #[.string nm, .int .i64 n]) w := by
  obtain ⟨i, hi, hq⟩ := Option.map_eq_some_iff.1 Tryz.rAt_both
  obtain ⟨m, hm, hpf⟩ := Option.map_eq_some_iff.1 hq
  obtain ⟨im, him, hsz⟩ := Option.map_eq_some_iff.1 Tryz.sizeM
  obtain ⟨hp, hf⟩ := Prod.mk.inj hpf
  exact meth_up hi hm hp hf Tryz.underlying163 rfl rfl rfl him hsz Tryz.underlying161 (load_mark k nm n w h0 h1)
theorem Tryz.mName_par (k : Nat) (nm : ByteArray) (n : Int) (w : World) (h0 : w.cell? ⟨k, 0, none⟩ = some (.string nm)) (h1 : w.cell? ⟨k, 1, none⟩ = some (.int .i64 n)) : (Go.method 373 164 (.pointer (some ⟨k, 0, none⟩)) "Name").run Tryz.prog w = .ok (146, .agg #[.string nm, .int .i64 n]) w := by
  obtain ⟨i, hi, hq⟩ := Option.map_eq_some_iff.1 Tryz.rName_par
  obtain ⟨m, hm, hpf⟩ := Option.map_eq_some_iff.1 hq
  obtain ⟨im, him, hsz⟩ := Option.map_eq_some_iff.1 Tryz.sizeM
  obtain ⟨hp, hf⟩ := Prod.mk.inj hpf
  exact meth_up hi hm hp hf Tryz.underlying166 rfl rfl rfl him hsz Tryz.underlying161 (load_mark k nm n w h0 h1)
theorem Tryz.mAt_par (k : Nat) (nm : ByteArray) (n : Int) (w : World) (h0 : w.cell? ⟨k, 0, none⟩ = some (.string nm)) (h1 : w.cell? ⟨k, 1, none⟩ = some (.int .i64 n)) : (Go.method 373 164 (.pointer (some ⟨k, 0, none⟩)) "At").run Tryz.prog w = .ok (145, .agg #[.string nm, .int .i64 n]) w := by
  obtain ⟨i, hi, hq⟩ := Option.map_eq_some_iff.1 Tryz.rAt_par
  obtain ⟨m, hm, hpf⟩ := Option.map_eq_some_iff.1 hq
  obtain ⟨im, him, hsz⟩ := Option.map_eq_some_iff.1 Tryz.sizeM
  obtain ⟨hp, hf⟩ := Prod.mk.inj hpf
  exact meth_up hi hm hp hf Tryz.underlying166 rfl rfl rfl him hsz Tryz.underlying161 (load_mark k nm n w h0 h1)
end Go.Proofs.YtdfkjgogdbeokaaGreatDoor
