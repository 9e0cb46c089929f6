/-
  DERIVED. Name and At of the code's stages.
-/
import Derived.Test.YtdfkjgogdbeokaaGreatDoorCdRow
import Derived.Test.YtdfkjgogdbeokaaGreatDoorCdAll
import Derived.Deep.MidRow
namespace Go.Proofs.YtdfkjgogdbeokaaGreatDoor
open Go.RowKit
theorem Tryz.undM : (Tryz.prog.underlying 161).map TypeDesc.isRow = some true := by kernel_rfl
theorem Tryz.sizeM : (Tryz.prog.info? 161).map (·.size) = some 2 := by kernel_rfl
theorem load_mark (k : Nat) (nm : ByteArray) (i : Int) (w : World) (h0 : w.cell? ⟨k, 0, none⟩ = some (.string nm)) (h1 : w.cell? ⟨k, 1, none⟩ = some (.int .i64 i)) : (loadVar 161 ⟨k, 0, none⟩).run Tryz.prog w = .ok (.agg #[.string nm, .int .i64 i]) w := by
  obtain ⟨d, hd, hr⟩ := Option.map_eq_some_iff.1 Tryz.undM
  have := run_loadVar_mid (P := Tryz.prog) w k 0 161 [.string nm, .int .i64 i] d (fun j v hv => by
    match j, hv with
    | 0, hv => cases hv; exact h0
    | 1, hv => cases hv; exact h1
    | j + 2, hv => simp at hv) hd hr Tryz.sizeM
  simpa using this
theorem meth_up {P : Program} {w : World} {fuel t k tm st f : Nat} {name : String} {i im : TypeInfo} {m : Method} {fs fs2 : Array Field} {fd : Field} {v : Value} (hi : P.info? t = some i) (hm : i.methods.find? (fun x => x.name == name) = some m) (hp : m.path.toList = [⟨st, 0, true⟩]) (hf : m.func = some (f, false))
    (hu : P.underlying st = some (.struct fs)) (h0 : fs[0]? = some fd) (hft : fd.type = tm) (hfo : fd.offset = 0) (him : P.info? tm = some im) (hsz : im.size = 2) (hum : P.underlying tm = some (.struct fs2))
    (hl : (loadVar tm ⟨k, 0, none⟩).run P w = .ok v w) : (Go.method (fuel + 1) t (.pointer (some ⟨k, 0, none⟩)) name).run P w = .ok (f, v) w := by
  rw [Go.method]
  simp [Sem.run_bind, typeInfo, hi, hm, hp, follow, run_underlying hu, h0, hf, Place.get, asAddr, fieldPlace, sizeOf, hft, him, hsz, hfo, receiverAt, run_underlying hum, hl, Addr.add, Result.andThen]
theorem Tryz.rName_simple : (Tryz.prog.info? 217).map (fun i => (i.methods.find? (fun x => x.name == "Name")).map (fun m => (m.path.toList, m.func))) = some (some ([⟨219, 0, true⟩], some (146, false))) := by kernel_rfl
theorem Tryz.rAt_simple : (Tryz.prog.info? 217).map (fun i => (i.methods.find? (fun x => x.name == "At")).map (fun m => (m.path.toList, m.func))) = some (some ([⟨219, 0, true⟩], some (145, false))) := by kernel_rfl
theorem Tryz.rName_fold : (Tryz.prog.info? 237).map (fun i => (i.methods.find? (fun x => x.name == "Name")).map (fun m => (m.path.toList, m.func))) = some (some ([⟨239, 0, true⟩], some (146, false))) := by kernel_rfl
theorem Tryz.rAt_fold : (Tryz.prog.info? 237).map (fun i => (i.methods.find? (fun x => x.name == "At")).map (fun m => (m.path.toList, m.func))) = some (some ([⟨239, 0, true⟩], some (145, false))) := by kernel_rfl
theorem Tryz.rName_both : (Tryz.prog.info? 159).map (fun i => (i.methods.find? (fun x => x.name == "Name")).map (fun m => (m.path.toList, m.func))) = some (some ([⟨163, 0, true⟩], some (146, false))) := by kernel_rfl
theorem Tryz.rAt_both : (Tryz.prog.info? 159).map (fun i => (i.methods.find? (fun x => x.name == "At")).map (fun m => (m.path.toList, m.func))) = some (some ([⟨163, 0, true⟩], some (145, false))) := by kernel_rfl
theorem Tryz.rName_par : (Tryz.prog.info? 164).map (fun i => (i.methods.find? (fun x => x.name == "Name")).map (fun m => (m.path.toList, m.func))) = some (some ([⟨166, 0, true⟩], some (146, false))) := by kernel_rfl
theorem Tryz.rAt_par : (Tryz.prog.info? 164).map (fun i => (i.methods.find? (fun x => x.name == "At")).map (fun m => (m.path.toList, m.func))) = some (some ([⟨166, 0, true⟩], some (145, false))) := by kernel_rfl
theorem Tryz.mName_simple (k : Nat) (nm : ByteArray) (n : Int) (w : World) (h0 : w.cell? ⟨k, 0, none⟩ = some (.string nm)) (h1 : w.cell? ⟨k, 1, none⟩ = some (.int .i64 n)) : (Go.method 373 217 (.pointer (some ⟨k, 0, none⟩)) "Name").run Tryz.prog w = .ok (146, .agg #[.string nm, .int .i64 n]) w := by
  obtain ⟨i, hi, hq⟩ := Option.map_eq_some_iff.1 Tryz.rName_simple
  obtain ⟨m, hm, hpf⟩ := Option.map_eq_some_iff.1 hq
  obtain ⟨im, him, hsz⟩ := Option.map_eq_some_iff.1 Tryz.sizeM
  obtain ⟨hp, hf⟩ := Prod.mk.inj hpf
  exact meth_up hi hm hp hf Tryz.underlying219 rfl rfl rfl him hsz Tryz.underlying161 (load_mark k nm n w h0 h1)
theorem Tryz.mAt_simple (k : Nat) (nm : ByteArray) (n : Int) (w : World) (h0 : w.cell? ⟨k, 0, none⟩ = some (.string nm)) (h1 : w.cell? ⟨k, 1, none⟩ = some (.int .i64 n)) : (Go.method 373 217 (.pointer (some ⟨k, 0, none⟩)) "At").run Tryz.prog w = .ok (145, .agg #[.string nm, .int .i64 n]) w := by
  obtain ⟨i, hi, hq⟩ := Option.map_eq_some_iff.1 Tryz.rAt_simple
  obtain ⟨m, hm, hpf⟩ := Option.map_eq_some_iff.1 hq
  obtain ⟨im, him, hsz⟩ := Option.map_eq_some_iff.1 Tryz.sizeM
  obtain ⟨hp, hf⟩ := Prod.mk.inj hpf
  exact meth_up hi hm hp hf Tryz.underlying219 rfl rfl rfl him hsz Tryz.underlying161 (load_mark k nm n w h0 h1)
theorem Tryz.mName_fold (k : Nat) (nm : ByteArray) (n : Int) (w : World) (h0 : w.cell? ⟨k, 0, none⟩ = some (.string nm)) (h1 : w.cell? ⟨k, 1, none⟩ = some (.int .i64 n)) : (Go.method 373 237 (.pointer (some ⟨k, 0, none⟩)) "Name").run Tryz.prog w = .ok (146, .agg #[.string nm, .int .i64 n]) w := by
  obtain ⟨i, hi, hq⟩ := Option.map_eq_some_iff.1 Tryz.rName_fold
  obtain ⟨m, hm, hpf⟩ := Option.map_eq_some_iff.1 hq
  obtain ⟨im, him, hsz⟩ := Option.map_eq_some_iff.1 Tryz.sizeM
  obtain ⟨hp, hf⟩ := Prod.mk.inj hpf
  exact meth_up hi hm hp hf Tryz.underlying239 rfl rfl rfl him hsz Tryz.underlying161 (load_mark k nm n w h0 h1)
theorem Tryz.mAt_fold (k : Nat) (nm : ByteArray) (n : Int) (w : World) (h0 : w.cell? ⟨k, 0, none⟩ = some (.string nm)) (h1 : w.cell? ⟨k, 1, none⟩ = some (.int .i64 n)) : (Go.method 373 237 (.pointer (some ⟨k, 0, none⟩)) "At").run Tryz.prog w = .ok (145, .agg #[.string nm, .int .i64 n]) w := by
  obtain ⟨i, hi, hq⟩ := Option.map_eq_some_iff.1 Tryz.rAt_fold
  obtain ⟨m, hm, hpf⟩ := Option.map_eq_some_iff.1 hq
  obtain ⟨im, him, hsz⟩ := Option.map_eq_some_iff.1 Tryz.sizeM
  obtain ⟨hp, hf⟩ := Prod.mk.inj hpf
  exact meth_up hi hm hp hf Tryz.underlying239 rfl rfl rfl him hsz Tryz.underlying161 (load_mark k nm n w h0 h1)
theorem Tryz.mName_both (k : Nat) (nm : ByteArray) (n : Int) (w : World) (h0 : w.cell? ⟨k, 0, none⟩ = some (.string nm)) (h1 : w.cell? ⟨k, 1, none⟩ = some (.int .i64 n)) : (Go.method 373 159 (.pointer (some ⟨k, 0, none⟩)) "Name").run Tryz.prog w = .ok (146, .agg #[.string nm, .int .i64 n]) w := by
  obtain ⟨i, hi, hq⟩ := Option.map_eq_some_iff.1 Tryz.rName_both
  obtain ⟨m, hm, hpf⟩ := Option.map_eq_some_iff.1 hq
  obtain ⟨im, him, hsz⟩ := Option.map_eq_some_iff.1 Tryz.sizeM
  obtain ⟨hp, hf⟩ := Prod.mk.inj hpf
  exact meth_up hi hm hp hf Tryz.underlying163 rfl rfl rfl him hsz Tryz.underlying161 (load_mark k nm n w h0 h1)
theorem Tryz.mAt_both (k : Nat) (nm : ByteArray) (n : Int) (w : World) (h0 : w.cell? ⟨k, 0, none⟩ = some (.string nm)) (h1 : w.cell? ⟨k, 1, none⟩ = some (.int .i64 n)) : (Go.method 373 159 (.pointer (some ⟨k, 0, none⟩)) "At").run Tryz.prog w = .ok (145, .agg #[.string nm, .int .i64 n]) w := by
  obtain ⟨i, hi, hq⟩ := Option.map_eq_some_iff.1 Tryz.rAt_both
  obtain ⟨m, hm, hpf⟩ := Option.map_eq_some_iff.1 hq
  obtain ⟨im, him, hsz⟩ := Option.map_eq_some_iff.1 Tryz.sizeM
  obtain ⟨hp, hf⟩ := Prod.mk.inj hpf
  exact meth_up hi hm hp hf Tryz.underlying163 rfl rfl rfl him hsz Tryz.underlying161 (load_mark k nm n w h0 h1)
theorem Tryz.mName_par (k : Nat) (nm : ByteArray) (n : Int) (w : World) (h0 : w.cell? ⟨k, 0, none⟩ = some (.string nm)) (h1 : w.cell? ⟨k, 1, none⟩ = some (.int .i64 n)) : (Go.method 373 164 (.pointer (some ⟨k, 0, none⟩)) "Name").run Tryz.prog w = .ok (146, .agg #[.string nm, .int .i64 n]) w := by
  obtain ⟨i, hi, hq⟩ := Option.map_eq_some_iff.1 Tryz.rName_par
  obtain ⟨m, hm, hpf⟩ := Option.map_eq_some_iff.1 hq
  obtain ⟨im, him, hsz⟩ := Option.map_eq_some_iff.1 Tryz.sizeM
  obtain ⟨hp, hf⟩ := Prod.mk.inj hpf
  exact meth_up hi hm hp hf Tryz.underlying166 rfl rfl rfl him hsz Tryz.underlying161 (load_mark k nm n w h0 h1)
theorem Tryz.mAt_par (k : Nat) (nm : ByteArray) (n : Int) (w : World) (h0 : w.cell? ⟨k, 0, none⟩ = some (.string nm)) (h1 : w.cell? ⟨k, 1, none⟩ = some (.int .i64 n)) : (Go.method 373 164 (.pointer (some ⟨k, 0, none⟩)) "At").run Tryz.prog w = .ok (145, .agg #[.string nm, .int .i64 n]) w := by
  obtain ⟨i, hi, hq⟩ := Option.map_eq_some_iff.1 Tryz.rAt_par
  obtain ⟨m, hm, hpf⟩ := Option.map_eq_some_iff.1 hq
  obtain ⟨im, him, hsz⟩ := Option.map_eq_some_iff.1 Tryz.sizeM
  obtain ⟨hp, hf⟩ := Prod.mk.inj hpf
  exact meth_up hi hm hp hf Tryz.underlying166 rfl rfl rfl him hsz Tryz.underlying161 (load_mark k nm n w h0 h1)
end Go.Proofs.YtdfkjgogdbeokaaGreatDoor
namespace Go.Proofs.YtdfkjgogdbeokaaGreatDoor
open Go.RowKit
set_option linter.unusedVariables false

set_option maxRecDepth 100000 in
set_option maxHeartbeats 1000000 in
theorem lstages_any (w : World) (j : Nat) (s : ByteArray) (v : Value) (r : Row) (A : Nat → Prop) (hj : w.heap[j]? = some (.cells #[.string s, v] 91 (0, 0))) (hr : RowAt w v r.vals) (hl : r.lies w A) (hlen : r.flat.length ≤ 900) :
    Calls Tryz.prog 41 #[.pointer (some ⟨j, 0, none⟩)] w fun e w' => ∃ v', e = .returned v' ∧ w'.ownsRow w.heap.size 94 1 v' (r.flat.map (·.2.2)).length (r.flat.map (·.2.2)) ∧ w.grownBy w' none := by
  obtain ⟨ao, cap, rfl⟩ := row_form1 hr
  have c0 : w.cell? ⟨j, 1, none⟩ = some (.slice ao r.vals.length cap) := by simp [World.cell?, hj]
  have C1 := all_any (r.flat.length + 1) r (by omega) w w.heap.size A (.slice none 0 0) (.slice ao r.vals.length cap) [] (World.ownsRow_nil _ _ _ _) hr (fun g _ e => by cases e) hl (fun k _ e => by cases e) (Nat.le_refl _) (by simp; omega)
  go_enter Tryz.func41, Tryz.ntmps41
  go_wp2_with fail
  with_reducible refine C1.mono ?_
  rintro e w1 ⟨v1, rfl, own1, gk1⟩
  go_wp2
  go_ret
  exact ⟨_, rfl, own1, ⟨gk1.os, gk1.tape, gk1.output, gk1.size, fun k hk _ => gk1.block k hk (fun e => by cases e)⟩⟩

set_option maxRecDepth 100000 in
theorem mark_name (nm : ByteArray) (n : Int) (w : World) : Calls Tryz.prog 146 #[.agg #[.string nm, .int .i64 n]] w fun e w' => e = .returned (.string nm) ∧ w.grownBy w' none := by
  go_enter Tryz.func146, Tryz.ntmps146
  go_wp2
  go_ret
  exact ⟨rfl, grown_alloc _ _ _⟩
/-- A stage, as an interface value: where it lies. -/
def StV (w : World) (x : ByteArray × Nat × Value) : Prop :=
  ∃ t k rest tt, x.2.2 = .iface t (.pointer (some ⟨k, 0, none⟩)) ∧ (t = 217 ∨ t = 237 ∨ t = 159 ∨ t = 164) ∧ w.heap[k]? = some (.cells (#[.string x.1, .int .i64 x.2.1] ++ rest) tt (0, 0))
theorem lies_stv {w : World} {A : Nat → Prop} : ∀ r : Row, r.lies w A → ∀ x ∈ r.flat, StV w x := by
  intro r
  induction r with
  | nil => intro _ x hx; cases hx
  | one t k nm i r ih =>
    rintro ⟨⟨_, h2, y, tt, h3⟩, h4⟩ x hx
    rcases List.mem_cons.mp hx with rfl | hx
    · exact ⟨t, k, #[y], tt, rfl, by rcases h2 with h | h | h <;> first | exact Or.inl h | exact Or.inr (Or.inl h), h3⟩
    · exact ih h4 x hx
  | two k nm i v1 v2 a b r ia ib ih =>
    rintro ⟨⟨_, h2⟩, _, _, h7, h8, h9⟩ x hx
    rcases List.mem_cons.mp hx with rfl | hx
    · exact ⟨_, k, #[v1, v2], _, rfl, Or.inr (Or.inr (Or.inl rfl)), h2⟩
    · rcases List.mem_append.mp hx with hx | hx
      · exact ia h7 x hx
      · rcases List.mem_append.mp hx with hx | hx
        · exact ib h8 x hx
        · exact ih h9 x hx
  | par k nm i v1 a r ia ih =>
    rintro ⟨⟨_, y, h2⟩, _, h7, h9⟩ x hx
    rcases List.mem_cons.mp hx with rfl | hx
    · exact ⟨_, k, #[y, v1], _, rfl, Or.inr (Or.inr (Or.inr rfl)), h2⟩
    · rcases List.mem_append.mp hx with hx | hx
      · exact ia h7 x hx
      · exact ih h9 x hx


/-- What the loop of Names holds. -/
structure NmRel (w2 wr : World) (L : List (ByteArray × Nat × Value)) (tn : Value) (j : Nat) : Prop where
  le : j ≤ L.length
  nm : wr.ownsRow w2.heap.size 9 1 tn j ((L.take j).map (fun x => Value.string x.1))
  gr : w2.grownBy wr none

theorem own_kept {w w' : World} {base n : Nat} {t : TypeId} {v : Value} {xs : List Value} (h : w.ownsRow base t 1 v n xs) (g : w.grownBy w' none) : w'.ownsRow base t 1 v n xs :=
  World.ownsRow.kept h g (by
    cases e : v.ownBlock with
    | none => exact Or.inl rfl
    | some g => exact Or.inr (by simp))
theorem own_lower {w : World} {B C n sz : Nat} {t : TypeId} {v : Value} {xs : List Value} (h : w.ownsRow B t sz v n xs) (hc : C ≤ B) : w.ownsRow C t sz v n xs := by
  obtain ⟨hl, h | ⟨g, cap, cur, hv, hg, rest⟩⟩ := h
  · exact ⟨hl, Or.inl h⟩
  · exact ⟨hl, Or.inr ⟨g, cap, cur, hv, Nat.le_trans hc hg, rest⟩⟩
theorem nm_app {w2 wa w3 : World} {q : Nat} {t1 : TypeId} {tn : Value} {xs1 : List Value} {P : Obj} (rn : wa.ownsRow w2.heap.size t1 1 tn q xs1) (gr : w2.grownBy wa none) (hg : (wa.alloc P).grownBy w3 tn.ownBlock) : w2.grownBy w3 none := by
  have hlo : ∀ j, tn.ownBlock = some j → w2.heap.size ≤ j := fun j e => (World.ownsRow.lt rn j e).1
  have hz : (wa.alloc P).heap.size = wa.heap.size + 1 := by simp
  have hzz := gr.size
  refine ⟨hg.os.trans gr.os, hg.tape.trans gr.tape, hg.output.trans gr.output, by have := hg.size; omega, fun j hj _ => ?_⟩
  rw [hg.block j (by omega) (fun e => by have := hlo j e.symm; omega), Below.heap_alloc _ _ _ (by omega)]
  exact gr.block j hj (by simp)
theorem Tryz.mName_all {t : TypeId} (ht : t = 217 ∨ t = 237 ∨ t = 159 ∨ t = 164) (k : Nat) (nm : ByteArray) (n : Int) (w : World) (h0 : w.cell? ⟨k, 0, none⟩ = some (.string nm)) (h1 : w.cell? ⟨k, 1, none⟩ = some (.int .i64 n)) :
    (Go.method 373 t (.pointer (some ⟨k, 0, none⟩)) "Name").run Tryz.prog w = .ok (146, .agg #[.string nm, .int .i64 n]) w := by
  rcases ht with rfl | rfl | rfl | rfl
  · exact Tryz.mName_simple k nm n w h0 h1
  · exact Tryz.mName_fold k nm n w h0 h1
  · exact Tryz.mName_both k nm n w h0 h1
  · exact Tryz.mName_par k nm n w h0 h1

set_option maxRecDepth 100000 in
set_option maxHeartbeats 1000000 in
theorem lstring_any (w : World) (j : Nat) (s : ByteArray) (v : Value) (hj : w.heap[j]? = some (.cells #[.string s, v] 91 (0, 0))) :
    Calls Tryz.prog 19 #[.pointer (some ⟨j, 0, none⟩)] w fun e w' => e = .returned (.string s) ∧ w.grownBy w' none := by
  have c0 : w.cell? ⟨j, 0, none⟩ = some (.string s) := by simp [World.cell?, hj]
  go_enter Tryz.func19, Tryz.ntmps19
  go_wp2
  go_ret
  exact ⟨rfl, grown_refl _ _⟩

set_option maxRecDepth 100000 in
set_option maxHeartbeats 4000000 in
theorem lnames_any (w : World) (j : Nat) (s : ByteArray) (v : Value) (r : Row) (A : Nat → Prop) (hj : w.heap[j]? = some (.cells #[.string s, v] 91 (0, 0))) (hr : RowAt w v r.vals) (hl : r.lies w A) (hlen : r.flat.length ≤ 900) :
    Calls Tryz.prog 20 #[.pointer (some ⟨j, 0, none⟩)] w fun e w' => ∃ nv, e = .returned nv ∧ w'.ownsRow w.heap.size 9 1 nv r.flat.length (r.flat.map (fun x => Value.string x.1)) ∧ w.grownBy w' none := by
  have C1 := lstages_any w j s v r A hj hr hl hlen
  have hst := lies_stv r hl
  obtain ⟨i1, hi, hz0, hz1, hz2⟩ := info_parts Tryz.infoStr
  generalize r.flat = L at *
  go_enter Tryz.func20, Tryz.ntmps20
  go_wp2_with fail
  with_reducible refine C1.mono ?_
  rintro e w2 ⟨v2, rfl, own2, g2⟩
  obtain ⟨ao, cap, rfl⟩ := row_form1 own2
  have hst2 : Hid (∀ x ∈ L, StV w2 x) := by
    show ∀ x ∈ L, StV w2 x
    intro x hx
    obtain ⟨t, k, rest, tt, e1, e2, e3⟩ := hst x hx
    exact ⟨t, k, rest, tt, e1, e2, by rw [g2.block k (lt_of_some e3) (by simp)]; exact e3⟩
  have hR0 : NmRel w2 w2 L (.slice none 0 0) 0 := ⟨Nat.zero_le _, World.ownsRow_nil _ _ _ _, grown_refl _ _⟩
  clear hst hl hr hj C1
  go_wp2
  go_loopw [3, 9] (fun t3 t9 wr => ∃ j, t9 = .int .i64 (j : Nat) ∧ NmRel w2 wr L t3 j) (fun _ t _ => L.length - (intOf t).toNat)
  case atStart => exact ⟨0, rfl, hR0⟩
  case round =>
    obtain ⟨q, rfl, rel⟩ := hrel
    obtain ⟨le, rnm, gr⟩ := rel
    obtain ⟨ao3, cap3, rfl⟩ := row_form1 rnm
    clear hR0
    have hsz := gr.size
    by_cases hlt : q < L.length
    · have hji : (q : Int) < (L.length : Int) := by omega
      have hvq : (L.map (·.2.2))[q]? = some L[q].2.2 := by simp [hlt]
      have ownr := World.ownsRow.kept own2 gr (by
        cases e : (Value.slice ao (L.map (·.2.2)).length cap).ownBlock with
        | none => exact Or.inl rfl
        | some g => exact Or.inr (by simp))
      have hlm : (L.map (·.2.2)).length = L.length := by simp
      rw [hlm] at ownr
      obtain ⟨gu, capu, e, _, _⟩ := World.ownsRow.form ownr (by omega)
      cases e
      have hcq := row_cell ownr hvq
      obtain ⟨t, k, rest, tt, e1, e2, e3⟩ := hst2.out L[q] (List.getElem_mem hlt)
      rw [e1] at hcq
      have hkl := lt_of_some e3
      have e3r : wr.heap[k]? = _ := (gr.block k hkl (by simp)).trans e3
      have k0 : wr.cell? ⟨k, 0, none⟩ = some (.string L[q].1) := by simp only [World.cell?, e3r]; rw [Array.getElem?_append_left (by simp)]; rfl
      have k1 : wr.cell? ⟨k, 1, none⟩ = some (.int .i64 (L[q].2.1 : Nat)) := by simp only [World.cell?, e3r]; rw [Array.getElem?_append_left (by simp)]; rfl
      have n1 : (L.take (q + 1)).map (fun x => Value.string x.1) = (L.take q).map (fun x => Value.string x.1) ++ [.string L[q].1] := by
        rw [List.take_add_one, List.getElem?_eq_getElem hlt, List.map_append]; rfl
      clear hvq e1 e3 ownr
      generalize L[q].1 = nm at *
      generalize L[q].2.1 = nn at *
      generalize (L.take q).map (fun x => Value.string x.1) = xs1 at *
      have N1 : Hid ((L.take (q + 1)).map (fun x => Value.string x.1) = xs1 ++ [.string nm]) := n1
      have mN := Tryz.mName_all e2 k nm (nn : Nat) wr k0 k1
      clear n1 e3r e2
      go_wp2_with fail
      refine (mark_name nm (nn : Nat) wr).mono ?_
      rintro e wa ⟨rfl, ga⟩
      have gra := gr.trans ga
      have RN := own_kept rnm ga
      have hza := Nat.le_trans gr.size ga.size
      go_wp2_with (at_builtin; go_must (refine wpList_append_lies _ rfl (.tmp 13) (.tmp 16) 47 rfl w2.heap.size 9 i1 _ 1 16 Tryz.underlying47 hi hz0 hz1 hz2 rfl (by decide) (.slice ao3 q cap3) q _ rfl (World.ownsRow.alloc RN _) ⟨wa.heap.size, 0, none⟩ 1 1 [.string nm] rfl rfl ?k1 ?k2 (by omega) ?k3 ?k4 ?k5 (wa.heap.size + 1) ?k6 ?_))
      case k1 => exact World.news_of_block (heap_alloc_new _ _)
      case k2 => simp [Value.oneCell']
      case k3 => unfold maxLen; omega
      case k4 => omega
      case k5 => simp; omega
      case k6 => simp
      intro g3 cap5 w3 hown3 hgrow3 hat3 hlt3
      have gr3 := nm_app RN gra hgrow3
      have rel3 : NmRel w2 w3 L (.slice (some ⟨g3, 0, none⟩) (q + 1) cap5) (q + 1) := ⟨by omega, by rw [N1.out]; exact hown3, gr3⟩
      clear mN hgrow3 hown3 RN
      go_wp2
      exact ⟨⟨q + 1, by simp, rel3⟩, by simp [intOf]; omega⟩
    · have hq2 : q = L.length := by omega
      subst hq2
      have hjd : ¬ ((L.length : Int) < (L.length : Int)) := by omega
      have tk : L.take L.length = L := List.take_length
      rw [tk] at rnm
      go_wp2
      go_ret
      refine ⟨_, rfl, ?_, g2.trans gr⟩
      exact own_lower rnm g2.size
end Go.Proofs.YtdfkjgogdbeokaaGreatDoor
