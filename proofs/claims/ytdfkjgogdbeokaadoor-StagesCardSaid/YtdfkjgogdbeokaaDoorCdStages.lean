/-
  DERIVED. Name and At of the code's stages.
-/
import Derived.Test.YtdfkjgogdbeokaaDoorCdRow
import Derived.Test.YtdfkjgogdbeokaaDoorCdAll
import Derived.Test.YtdfkjgogdbeokaaDoorRfLoop
import Derived.Deep.MidRow
namespace Go.Proofs.YtdfkjgogdbeokaaDoor
open Go.RowKit
theorem Tryd.undM : (Tryd.prog.underlying 115).map TypeDesc.isRow = some true := by kernel_rfl
theorem Tryd.sizeM : (Tryd.prog.info? 115).map (·.size) = some 2 := by kernel_rfl
theorem load_mark (k : Nat) (nm : ByteArray) (i : Int) (w : World) (h0 : w.cell? ⟨k, 0, none⟩ = some (.string nm)) (h1 : w.cell? ⟨k, 1, none⟩ = some (.int .i64 i)) : (loadVar 115 ⟨k, 0, none⟩).run Tryd.prog w = .ok (.agg #[.string nm, .int .i64 i]) w := by
  obtain ⟨d, hd, hr⟩ := Option.map_eq_some_iff.1 Tryd.undM
  have := run_loadVar_mid (P := Tryd.prog) w k 0 115 [.string nm, .int .i64 i] d (fun j v hv => by
    match j, hv with
    | 0, hv => cases hv; exact h0
    | 1, hv => cases hv; exact h1
    | j + 2, hv => simp at hv) hd hr Tryd.sizeM
  simpa using this
theorem meth_up {P : Program} {w : World} {fuel t k tm st f : Nat} {name : String} {i im : TypeInfo} {m : Method} {fs fs2 : Array Field} {fd : Field} {v : Value} (hi : P.info? t = some i) (hm : i.methods.find? (fun x => x.name == name) = some m) (hp : m.path.toList = [⟨st, 0, true⟩]) (hf : m.func = some (f, false))
    (hu : P.underlying st = some (.struct fs)) (h0 : fs[0]? = some fd) (hft : fd.type = tm) (hfo : fd.offset = 0) (him : P.info? tm = some im) (hsz : im.size = 2) (hum : P.underlying tm = some (.struct fs2))
    (hl : (loadVar tm ⟨k, 0, none⟩).run P w = .ok v w) : (Go.method (fuel + 1) t (.pointer (some ⟨k, 0, none⟩)) name).run P w = .ok (f, v) w := by
  rw [Go.method]
  simp [Sem.run_bind, typeInfo, hi, hm, hp, follow, run_underlying hu, h0, hf, Place.get, asAddr, fieldPlace, sizeOf, hft, him, hsz, hfo, receiverAt, run_underlying hum, hl, Addr.add, Result.andThen]
theorem Tryd.rName_simple : (Tryd.prog.info? 141).map (fun i => (i.methods.find? (fun x => x.name == "Name")).map (fun m => (m.path.toList, m.func))) = some (some ([⟨143, 0, true⟩], some (81, false))) := by kernel_rfl
theorem Tryd.rAt_simple : (Tryd.prog.info? 141).map (fun i => (i.methods.find? (fun x => x.name == "At")).map (fun m => (m.path.toList, m.func))) = some (some ([⟨143, 0, true⟩], some (80, false))) := by kernel_rfl
theorem Tryd.rName_fold : (Tryd.prog.info? 149).map (fun i => (i.methods.find? (fun x => x.name == "Name")).map (fun m => (m.path.toList, m.func))) = some (some ([⟨151, 0, true⟩], some (81, false))) := by kernel_rfl
theorem Tryd.rAt_fold : (Tryd.prog.info? 149).map (fun i => (i.methods.find? (fun x => x.name == "At")).map (fun m => (m.path.toList, m.func))) = some (some ([⟨151, 0, true⟩], some (80, false))) := by kernel_rfl
theorem Tryd.rName_both : (Tryd.prog.info? 113).map (fun i => (i.methods.find? (fun x => x.name == "Name")).map (fun m => (m.path.toList, m.func))) = some (some ([⟨117, 0, true⟩], some (81, false))) := by kernel_rfl
theorem Tryd.rAt_both : (Tryd.prog.info? 113).map (fun i => (i.methods.find? (fun x => x.name == "At")).map (fun m => (m.path.toList, m.func))) = some (some ([⟨117, 0, true⟩], some (80, false))) := by kernel_rfl
theorem Tryd.rName_par : (Tryd.prog.info? 118).map (fun i => (i.methods.find? (fun x => x.name == "Name")).map (fun m => (m.path.toList, m.func))) = some (some ([⟨120, 0, true⟩], some (81, false))) := by kernel_rfl
theorem Tryd.rAt_par : (Tryd.prog.info? 118).map (fun i => (i.methods.find? (fun x => x.name == "At")).map (fun m => (m.path.toList, m.func))) = some (some ([⟨120, 0, true⟩], some (80, false))) := by kernel_rfl
theorem Tryd.mName_simple (k : Nat) (nm : ByteArray) (n : Int) (w : World) (h0 : w.cell? ⟨k, 0, none⟩ = some (.string nm)) (h1 : w.cell? ⟨k, 1, none⟩ = some (.int .i64 n)) : (Go.method 287 141 (.pointer (some ⟨k, 0, none⟩)) "Name").run Tryd.prog w = .ok (81, .agg #[.string nm, .int .i64 n]) w := by
  obtain ⟨i, hi, hq⟩ := Option.map_eq_some_iff.1 Tryd.rName_simple
  obtain ⟨m, hm, hpf⟩ := Option.map_eq_some_iff.1 hq
  obtain ⟨im, him, hsz⟩ := Option.map_eq_some_iff.1 Tryd.sizeM
  obtain ⟨hp, hf⟩ := Prod.mk.inj hpf
  exact meth_up hi hm hp hf Tryd.underlying143 rfl rfl rfl him hsz Tryd.underlying115 (load_mark k nm n w h0 h1)
theorem Tryd.mAt_simple (k : Nat) (nm : ByteArray) (n : Int) (w : World) (h0 : w.cell? ⟨k, 0, none⟩ = some (.string nm)) (h1 : w.cell? ⟨k, 1, none⟩ = some (.int .i64 n)) : (Go.method 287 141 (.pointer (some ⟨k, 0, none⟩)) "At").run Tryd.prog w = .ok (80, .agg #[.string nm, .int .i64 n]) w := by
  obtain ⟨i, hi, hq⟩ := Option.map_eq_some_iff.1 Tryd.rAt_simple
  obtain ⟨m, hm, hpf⟩ := Option.map_eq_some_iff.1 hq
  obtain ⟨im, him, hsz⟩ := Option.map_eq_some_iff.1 Tryd.sizeM
  obtain ⟨hp, hf⟩ := Prod.mk.inj hpf
  exact meth_up hi hm hp hf Tryd.underlying143 rfl rfl rfl him hsz Tryd.underlying115 (load_mark k nm n w h0 h1)
theorem Tryd.mName_fold (k : Nat) (nm : ByteArray) (n : Int) (w : World) (h0 : w.cell? ⟨k, 0, none⟩ = some (.string nm)) (h1 : w.cell? ⟨k, 1, none⟩ = some (.int .i64 n)) : (Go.method 287 149 (.pointer (some ⟨k, 0, none⟩)) "Name").run Tryd.prog w = .ok (81, .agg #[.string nm, .int .i64 n]) w := by
  obtain ⟨i, hi, hq⟩ := Option.map_eq_some_iff.1 Tryd.rName_fold
  obtain ⟨m, hm, hpf⟩ := Option.map_eq_some_iff.1 hq
  obtain ⟨im, him, hsz⟩ := Option.map_eq_some_iff.1 Tryd.sizeM
  obtain ⟨hp, hf⟩ := Prod.mk.inj hpf
  exact meth_up hi hm hp hf Tryd.underlying151 rfl rfl rfl him hsz Tryd.underlying115 (load_mark k nm n w h0 h1)
theorem Tryd.mAt_fold (k : Nat) (nm : ByteArray) (n : Int) (w : World) (h0 : w.cell? ⟨k, 0, none⟩ = some (.string nm)) (h1 : w.cell? ⟨k, 1, none⟩ = some (.int .i64 n)) : (Go.method 287 149 (.pointer (some ⟨k, 0, none⟩)) "At").run Tryd.prog w = .ok (80, .agg #[.string nm, .int .i64 n]) w := by
  obtain ⟨i, hi, hq⟩ := Option.map_eq_some_iff.1 Tryd.rAt_fold
  obtain ⟨m, hm, hpf⟩ := Option.map_eq_some_iff.1 hq
  obtain ⟨im, him, hsz⟩ := Option.map_eq_some_iff.1 Tryd.sizeM
  obtain ⟨hp, hf⟩ := Prod.mk.inj hpf
  exact meth_up hi hm hp hf Tryd.underlying151 rfl rfl rfl him hsz Tryd.underlying115 (load_mark k nm n w h0 h1)
theorem Tryd.mName_both (k : Nat) (nm : ByteArray) (n : Int) (w : World) (h0 : w.cell? ⟨k, 0, none⟩ = some (.string nm)) (h1 : w.cell? ⟨k, 1, none⟩ = some (.int .i64 n)) : (Go.method 287 113 (.pointer (some ⟨k, 0, none⟩)) "Name").run Tryd.prog w = .ok (81, .agg #[.string nm, .int .i64 n]) w := by
  obtain ⟨i, hi, hq⟩ := Option.map_eq_some_iff.1 Tryd.rName_both
  obtain ⟨m, hm, hpf⟩ := Option.map_eq_some_iff.1 hq
  obtain ⟨im, him, hsz⟩ := Option.map_eq_some_iff.1 Tryd.sizeM
  obtain ⟨hp, hf⟩ := Prod.mk.inj hpf
  exact meth_up hi hm hp hf Tryd.underlying117 rfl rfl rfl him hsz Tryd.underlying115 (load_mark k nm n w h0 h1)
theorem Tryd.mAt_both (k : Nat) (nm : ByteArray) (n : Int) (w : World) (h0 : w.cell? ⟨k, 0, none⟩ = some (.string nm)) (h1 : w.cell? ⟨k, 1, none⟩ = some (.int .i64 n)) : (Go.method 287 113 (.pointer (some ⟨k, 0, none⟩)) "At").run Tryd.prog w = .ok (80, .agg #[.string nm, .int .i64 n]) w := by
  obtain ⟨i, hi, hq⟩ := Option.map_eq_some_iff.1 Tryd.rAt_both
  obtain ⟨m, hm, hpf⟩ := Option.map_eq_some_iff.1 hq
  obtain ⟨im, him, hsz⟩ := Option.map_eq_some_iff.1 Tryd.sizeM
  obtain ⟨hp, hf⟩ := Prod.mk.inj hpf
  exact meth_up hi hm hp hf Tryd.underlying117 rfl rfl rfl him hsz Tryd.underlying115 (load_mark k nm n w h0 h1)
theorem Tryd.mName_par (k : Nat) (nm : ByteArray) (n : Int) (w : World) (h0 : w.cell? ⟨k, 0, none⟩ = some (.string nm)) (h1 : w.cell? ⟨k, 1, none⟩ = some (.int .i64 n)) : (Go.method 287 118 (.pointer (some ⟨k, 0, none⟩)) "Name").run Tryd.prog w = .ok (81, .agg #[.string nm, .int .i64 n]) w := by
  obtain ⟨i, hi, hq⟩ := Option.map_eq_some_iff.1 Tryd.rName_par
  obtain ⟨m, hm, hpf⟩ := Option.map_eq_some_iff.1 hq
  obtain ⟨im, him, hsz⟩ := Option.map_eq_some_iff.1 Tryd.sizeM
  obtain ⟨hp, hf⟩ := Prod.mk.inj hpf
  exact meth_up hi hm hp hf Tryd.underlying120 rfl rfl rfl him hsz Tryd.underlying115 (load_mark k nm n w h0 h1)
theorem Tryd.mAt_par (k : Nat) (nm : ByteArray) (n : Int) (w : World) (h0 : w.cell? ⟨k, 0, none⟩ = some (.string nm)) (h1 : w.cell? ⟨k, 1, none⟩ = some (.int .i64 n)) : (Go.method 287 118 (.pointer (some ⟨k, 0, none⟩)) "At").run Tryd.prog w = .ok (80, .agg #[.string nm, .int .i64 n]) w := by
  obtain ⟨i, hi, hq⟩ := Option.map_eq_some_iff.1 Tryd.rAt_par
  obtain ⟨m, hm, hpf⟩ := Option.map_eq_some_iff.1 hq
  obtain ⟨im, him, hsz⟩ := Option.map_eq_some_iff.1 Tryd.sizeM
  obtain ⟨hp, hf⟩ := Prod.mk.inj hpf
  exact meth_up hi hm hp hf Tryd.underlying120 rfl rfl rfl him hsz Tryd.underlying115 (load_mark k nm n w h0 h1)
end Go.Proofs.YtdfkjgogdbeokaaDoor
namespace Go.Proofs.YtdfkjgogdbeokaaDoor
open Go.RowKit
set_option linter.unusedVariables false

set_option maxRecDepth 100000 in
set_option maxHeartbeats 1000000 in
theorem lstages_any (w : World) (j : Nat) (s : ByteArray) (v : Value) (r : Row) (A : Nat → Prop) (hj : w.heap[j]? = some (.cells #[.string s, v] 82 (0, 0))) (hr : RowAt w v r.vals) (hl : r.lies w A) (hlen : r.flat.length ≤ 900) :
    Calls Tryd.prog 18 #[.pointer (some ⟨j, 0, none⟩)] w fun e w' => ∃ v', e = .returned v' ∧ w'.ownsRow w.heap.size 63 1 v' (r.flat.map (·.2.2)).length (r.flat.map (·.2.2)) ∧ w.grownBy w' none := by
  obtain ⟨ao, cap, rfl⟩ := row_form1 hr
  have c0 : w.cell? ⟨j, 1, none⟩ = some (.slice ao r.vals.length cap) := by simp [World.cell?, hj]
  have C1 := all_any (r.flat.length + 1) r (by omega) w w.heap.size A (.slice none 0 0) (.slice ao r.vals.length cap) [] (World.ownsRow_nil _ _ _ _) hr (fun g _ e => by cases e) hl (fun k _ e => by cases e) (Nat.le_refl _) (by simp; omega)
  go_enter Tryd.func18, Tryd.ntmps18
  go_wp2_with fail
  with_reducible refine C1.mono ?_
  rintro e w1 ⟨v1, rfl, own1, gk1⟩
  go_wp2
  go_ret
  exact ⟨_, rfl, own1, ⟨gk1.os, gk1.tape, gk1.output, gk1.size, fun k hk _ => gk1.block k hk (fun e => by cases e)⟩⟩

set_option maxRecDepth 100000 in
theorem mark_name (nm : ByteArray) (n : Int) (w : World) : Calls Tryd.prog 81 #[.agg #[.string nm, .int .i64 n]] w fun e w' => e = .returned (.string nm) ∧ w.grownBy w' none := by
  go_enter Tryd.func81, Tryd.ntmps81
  go_wp2
  go_ret
  exact ⟨rfl, grown_alloc _ _ _⟩
set_option maxRecDepth 100000 in
theorem mark_at (nm : ByteArray) (n : Int) (w : World) : Calls Tryd.prog 80 #[.agg #[.string nm, .int .i64 n]] w fun e w' => e = .returned (.int .i64 n) ∧ w.grownBy w' none := by
  go_enter Tryd.func80, Tryd.ntmps80
  go_wp2
  go_ret
  exact ⟨rfl, grown_alloc _ _ _⟩
theorem Tryd.infoInt : (Tryd.prog.info? 3).map (fun i => (i.zero, i.size, i.bytes)) = some (some (.int .i64 0), 1, 8) := by kernel_rfl
/-- A stage, as an interface value: where it lies. -/
def StV (w : World) (x : ByteArray × Nat × Value) : Prop :=
  ∃ t k rest tt, x.2.2 = .iface t (.pointer (some ⟨k, 0, none⟩)) ∧ (t = 141 ∨ t = 149 ∨ t = 113 ∨ t = 118) ∧ w.heap[k]? = some (.cells (#[.string x.1, .int .i64 x.2.1] ++ rest) tt (0, 0))
theorem lies_stv {w : World} {A : Nat → Prop} : ∀ r : Row, r.lies w A → ∀ x ∈ r.flat, StV w x := by
  intro r
  induction r with
  | nil => intro _ x hx; cases hx
  | one t k nm i r ih =>
    rintro ⟨⟨_, h2, y, tt, h3⟩, h4⟩ x hx
    rcases List.mem_cons.mp hx with rfl | hx
    · exact ⟨t, k, #[y], tt, rfl, by rcases h2 with h | h | h <;> first | exact Or.inl h | exact Or.inr (Or.inl h), h3⟩
    · exact ih h4 x hx
  | two k nm i v1 v2 a b r ia ib ih =>
    rintro ⟨⟨_, h2⟩, _, _, h7, h8, h9⟩ x hx
    rcases List.mem_cons.mp hx with rfl | hx
    · exact ⟨_, k, #[v1, v2], _, rfl, Or.inr (Or.inr (Or.inl rfl)), h2⟩
    · rcases List.mem_append.mp hx with hx | hx
      · exact ia h7 x hx
      · rcases List.mem_append.mp hx with hx | hx
        · exact ib h8 x hx
        · exact ih h9 x hx
  | par k nm i v1 a r ia ih =>
    rintro ⟨⟨_, y, h2⟩, _, h7, h9⟩ x hx
    rcases List.mem_cons.mp hx with rfl | hx
    · exact ⟨_, k, #[y, v1], _, rfl, Or.inr (Or.inr (Or.inr rfl)), h2⟩
    · rcases List.mem_append.mp hx with hx | hx
      · exact ia h7 x hx
      · exact ih h9 x hx

/-- What the loop of plain.Stages holds. -/
structure SgRel (w2 wr : World) (L : List (ByteArray × Nat × Value)) (tn ta : Value) (j : Nat) : Prop where
  le : j ≤ L.length
  nm : wr.ownsRow w2.heap.size 9 1 tn j ((L.take j).map (fun x => Value.string x.1))
  at_ : wr.ownsRow w2.heap.size 3 1 ta j ((L.take j).map (fun x => Value.int .i64 (x.2.1 : Nat)))
  gr : w2.grownBy wr none

theorem own_kept {w w' : World} {base n : Nat} {t : TypeId} {v : Value} {xs : List Value} (h : w.ownsRow base t 1 v n xs) (g : w.grownBy w' none) : w'.ownsRow base t 1 v n xs :=
  World.ownsRow.kept h g (by
    cases e : v.ownBlock with
    | none => exact Or.inl rfl
    | some g => exact Or.inr (by simp))
theorem sg_one {w2 wr wa : World} {q n k : Nat} {tn ta : Value} {xs1 xs2 : List Value} {O : Obj} (rnm : wr.ownsRow w2.heap.size 9 1 tn q xs1) (rat : wr.ownsRow w2.heap.size 3 1 ta n xs2) (gr : w2.grownBy wr none) (hk : k < w2.heap.size) (e3 : wr.heap[k]? = some O) (ga : wr.grownBy wa none) :
    wa.heap[k]? = some O ∧ w2.grownBy wa none ∧ wa.ownsRow w2.heap.size 9 1 tn q xs1 ∧ wa.ownsRow w2.heap.size 3 1 ta n xs2 ∧ w2.heap.size ≤ wa.heap.size ∧ True :=
  ⟨(ga.block k (lt_of_some e3) (by simp)).trans e3, gr.trans ga, own_kept rnm ga, own_kept rat ga, Nat.le_trans gr.size ga.size, trivial⟩
/-- Behind an append onto the one list, the other. -/
theorem sg_app {w2 wa w3 : World} {q n k : Nat} {t1 t2 : TypeId} {tn ta : Value} {xs1 xs2 : List Value} {O P : Obj} (ht : t1 ≠ t2) (rn : wa.ownsRow w2.heap.size t1 1 tn q xs1) (ra : wa.ownsRow w2.heap.size t2 1 ta n xs2) (gr : w2.grownBy wa none) (hk : k < w2.heap.size) (e3 : wa.heap[k]? = some O) (hg : (wa.alloc P).grownBy w3 tn.ownBlock) :
    w3.ownsRow w2.heap.size t2 1 ta n xs2 ∧ w3.heap[k]? = some O ∧ w2.grownBy w3 none := by
  have hlo : ∀ j, tn.ownBlock = some j → w2.heap.size ≤ j := fun j e => (World.ownsRow.lt rn j e).1
  have hz : (wa.alloc P).heap.size = wa.heap.size + 1 := by simp
  have hzz := gr.size
  refine ⟨?_, ?_, ⟨hg.os.trans gr.os, hg.tape.trans gr.tape, hg.output.trans gr.output, by have := hg.size; omega, fun j hj _ => ?_⟩⟩
  · refine World.ownsRow.kept (World.ownsRow.alloc ra P) hg ?_
    rcases row_type ra rn (Ne.symm ht) with e | e
    · exact Or.inl e
    · exact Or.inr e
  · rw [hg.block k (by have := lt_of_some e3; omega) (fun e => by have := hlo k e.symm; omega), Below.heap_alloc _ _ _ (lt_of_some e3)]; exact e3
  · rw [hg.block j (by omega) (fun e => by have := hlo j e.symm; omega), Below.heap_alloc _ _ _ (by omega)]
    exact gr.block j hj (by simp)

set_option maxRecDepth 100000 in
set_option maxHeartbeats 4000000 in
theorem pstages_any (w : World) (j : Nat) (s : ByteArray) (v : Value) (r : Row) (A : Nat → Prop) (hj : w.heap[j]? = some (.cells #[.string s, v] 82 (0, 0))) (hr : RowAt w v r.vals) (hl : r.lies w A) (hlen : r.flat.length ≤ 900) :
    Calls Tryd.prog 11 #[.pointer (some ⟨j, 0, none⟩)] w fun e w' => ∃ nv av B, e = .returned (.tuple #[nv, av]) ∧ w.heap.size ≤ B ∧ w'.ownsRow B 9 1 nv r.flat.length (r.flat.map (fun x => Value.string x.1)) ∧ w'.ownsRow B 3 1 av r.flat.length (r.flat.map (fun x => Value.int .i64 (x.2.1 : Nat))) ∧ w.grownBy w' none := by
  have C1 := lstages_any w j s v r A hj hr hl hlen
  have hst := lies_stv r hl
  obtain ⟨i1, hi, hz0, hz1, hz2⟩ := info_parts Tryd.infoStr
  obtain ⟨i2, hi', hz0', hz1', hz2'⟩ := info_parts Tryd.infoInt
  generalize r.flat = L at *
  go_enter Tryd.func11, Tryd.ntmps11
  go_wp2_with fail
  with_reducible refine C1.mono ?_
  rintro e w2 ⟨v2, rfl, own2, g2⟩
  obtain ⟨ao, cap, rfl⟩ := row_form1 own2
  have hst2 : Hid (∀ x ∈ L, StV w2 x) := by
    show ∀ x ∈ L, StV w2 x
    intro x hx
    obtain ⟨t, k, rest, tt, e1, e2, e3⟩ := hst x hx
    exact ⟨t, k, rest, tt, e1, e2, by rw [g2.block k (lt_of_some e3) (by simp)]; exact e3⟩
  have hR0 : SgRel w2 w2 L (.slice none 0 0) (.slice none 0 0) 0 := ⟨Nat.zero_le _, World.ownsRow_nil _ _ _ _, World.ownsRow_nil _ _ _ _, grown_refl _ _⟩
  clear hst hl hr hj C1
  go_wp2
  go_loopw [4, 5, 11] (fun t4 t5 t11 wr => ∃ j, t11 = .int .i64 (j : Nat) ∧ SgRel w2 wr L t4 t5 j) (fun _ _ t _ => L.length - (intOf t).toNat)
  case atStart => exact ⟨0, rfl, hR0⟩
  case round =>
    obtain ⟨q, rfl, rel⟩ := hrel
    obtain ⟨le, rnm, rat, gr⟩ := rel
    obtain ⟨ao3, cap3, rfl⟩ := row_form1 rnm
    obtain ⟨ao4, cap4, rfl⟩ := row_form1 rat
    clear hR0
    have hsz := gr.size
    by_cases hlt : q < L.length
    · have hji : (q : Int) < (L.length : Int) := by omega
      have hvq : (L.map (·.2.2))[q]? = some L[q].2.2 := by simp [hlt]
      have ownr := World.ownsRow.kept own2 gr (by
        cases e : (Value.slice ao (L.map (·.2.2)).length cap).ownBlock with
        | none => exact Or.inl rfl
        | some g => exact Or.inr (by simp))
      have hlm : (L.map (·.2.2)).length = L.length := by simp
      rw [hlm] at ownr
      obtain ⟨gu, capu, e, _, _⟩ := World.ownsRow.form ownr (by omega)
      cases e
      have hcq := row_cell ownr hvq
      obtain ⟨t, k, rest, tt, e1, e2, e3⟩ := hst2.out L[q] (List.getElem_mem hlt)
      rw [e1] at hcq
      have hkl := lt_of_some e3
      have e3r : wr.heap[k]? = _ := (gr.block k hkl (by simp)).trans e3
      have k0 : wr.cell? ⟨k, 0, none⟩ = some (.string L[q].1) := by simp only [World.cell?, e3r]; rw [Array.getElem?_append_left (by simp)]; rfl
      have k1 : wr.cell? ⟨k, 1, none⟩ = some (.int .i64 (L[q].2.1 : Nat)) := by simp only [World.cell?, e3r]; rw [Array.getElem?_append_left (by simp)]; rfl
      have n1 : (L.take (q + 1)).map (fun x => Value.string x.1) = (L.take q).map (fun x => Value.string x.1) ++ [.string L[q].1] := by
        rw [List.take_add_one, List.getElem?_eq_getElem hlt, List.map_append]; rfl
      have n2 : (L.take (q + 1)).map (fun x => Value.int .i64 (x.2.1 : Nat)) = (L.take q).map (fun x => Value.int .i64 (x.2.1 : Nat)) ++ [.int .i64 (L[q].2.1 : Nat)] := by
        rw [List.take_add_one, List.getElem?_eq_getElem hlt, List.map_append]; rfl
      clear hvq e1 e3 ownr
      generalize L[q].1 = nm at *
      generalize L[q].2.1 = nn at *
      generalize (L.take q).map (fun x => Value.string x.1) = xs1 at *
      generalize (L.take q).map (fun x => Value.int .i64 (x.2.1 : Nat)) = xs2 at *
      have N1 : Hid ((L.take (q + 1)).map (fun x => Value.string x.1) = xs1 ++ [.string nm]) := n1
      have N2 : Hid ((L.take (q + 1)).map (fun x => Value.int .i64 (x.2.1 : Nat)) = xs2 ++ [.int .i64 (nn : Nat)]) := n2
      have E3 : Hid (wr.heap[k]? = some (.cells (#[.string nm, .int .i64 (nn : Nat)] ++ rest) tt (0, 0))) := e3r
      clear n1 n2 e3r
      rcases e2 with rfl | rfl | rfl | rfl
      · have mN := Tryd.mName_simple k nm (nn : Nat) wr k0 k1
        go_wp2_with fail
        refine (mark_name nm (nn : Nat) wr).mono ?_
        rintro e wa ⟨rfl, ga⟩
        obtain ⟨E3a, gra, RN, RA, hza, _⟩ := sg_one rnm rat gr hkl E3.out ga
        go_wp2_with (at_builtin; go_must (refine wpList_append_lies _ rfl (.tmp 17) (.tmp 20) 42 rfl w2.heap.size 9 i1 _ 1 16 Tryd.underlying42 hi hz0 hz1 hz2 rfl (by decide) (.slice ao3 q cap3) q _ rfl (World.ownsRow.alloc RN _) ⟨wa.heap.size, 0, none⟩ 1 1 [.string nm] rfl rfl ?k1 ?k2 (by omega) ?k3 ?k4 ?k5 (wa.heap.size + 1) ?k6 ?_))
        case k1 => exact World.news_of_block (heap_alloc_new _ _)
        case k2 => simp [Value.oneCell']
        case k3 => unfold maxLen; omega
        case k4 => omega
        case k5 => simp; omega
        case k6 => simp
        intro g3 cap5 w3 hown3 hgrow3 hat3 hlt3
        obtain ⟨RA3, E33, gr3⟩ := sg_app (by decide) RN RA gra hkl E3a hgrow3
        have k03 : w3.cell? ⟨k, 0, none⟩ = some (.string nm) := by simp only [World.cell?, E33]; rw [Array.getElem?_append_left (by simp)]; rfl
        have k13 : w3.cell? ⟨k, 1, none⟩ = some (.int .i64 (nn : Nat)) := by simp only [World.cell?, E33]; rw [Array.getElem?_append_left (by simp)]; rfl
        have mA := Tryd.mAt_simple k nm (nn : Nat) w3 k03 k13
        clear mN hgrow3
        go_wp2_with fail
        refine (mark_at nm (nn : Nat) w3).mono ?_
        rintro e wb ⟨rfl, gb⟩
        obtain ⟨E3b, grb, RNb, RAb, hzb, _⟩ := sg_one hown3 RA3 gr3 hkl E33 gb
        go_wp2_with (at_builtin; go_must (refine wpList_append_lies _ rfl (.tmp 22) (.tmp 25) 43 rfl w2.heap.size 3 i2 _ 1 8 Tryd.underlying43 hi' hz0' hz1' hz2' rfl (by decide) (.slice ao4 q cap4) q _ rfl (World.ownsRow.alloc RAb _) ⟨wb.heap.size, 0, none⟩ 1 1 [.int .i64 (nn : Nat)] rfl rfl ?p1 ?p2 (by omega) ?p3 ?p4 ?p5 (wb.heap.size + 1) ?p6 ?_))
        case p1 => exact World.news_of_block (heap_alloc_new _ _)
        case p2 => simp [Value.oneCell']
        case p3 => unfold maxLen; omega
        case p4 => omega
        case p5 => simp; omega
        case p6 => simp
        intro g4 cap6 w4 hown4 hgrow4 hat4 hlt4
        obtain ⟨RN4, _, gr4⟩ := sg_app (by decide) RAb RNb grb hkl E3b hgrow4
        have rel4 : SgRel w2 w4 L (.slice (some ⟨g3, 0, none⟩) (q + 1) cap5) (.slice (some ⟨g4, 0, none⟩) (q + 1) cap6) (q + 1) := ⟨by omega, by rw [N1.out]; exact RN4, by rw [N2.out]; exact hown4, gr4⟩
        clear mA hgrow4 RN4 hown4 RNb RAb hown3 RA3 RN RA
        go_wp2
        exact ⟨⟨q + 1, by simp, rel4⟩, by simp [intOf]; omega⟩
      · have mN := Tryd.mName_fold k nm (nn : Nat) wr k0 k1
        go_wp2_with fail
        refine (mark_name nm (nn : Nat) wr).mono ?_
        rintro e wa ⟨rfl, ga⟩
        obtain ⟨E3a, gra, RN, RA, hza, _⟩ := sg_one rnm rat gr hkl E3.out ga
        go_wp2_with (at_builtin; go_must (refine wpList_append_lies _ rfl (.tmp 17) (.tmp 20) 42 rfl w2.heap.size 9 i1 _ 1 16 Tryd.underlying42 hi hz0 hz1 hz2 rfl (by decide) (.slice ao3 q cap3) q _ rfl (World.ownsRow.alloc RN _) ⟨wa.heap.size, 0, none⟩ 1 1 [.string nm] rfl rfl ?l1 ?l2 (by omega) ?l3 ?l4 ?l5 (wa.heap.size + 1) ?l6 ?_))
        case l1 => exact World.news_of_block (heap_alloc_new _ _)
        case l2 => simp [Value.oneCell']
        case l3 => unfold maxLen; omega
        case l4 => omega
        case l5 => simp; omega
        case l6 => simp
        intro g3 cap5 w3 hown3 hgrow3 hat3 hlt3
        obtain ⟨RA3, E33, gr3⟩ := sg_app (by decide) RN RA gra hkl E3a hgrow3
        have k03 : w3.cell? ⟨k, 0, none⟩ = some (.string nm) := by simp only [World.cell?, E33]; rw [Array.getElem?_append_left (by simp)]; rfl
        have k13 : w3.cell? ⟨k, 1, none⟩ = some (.int .i64 (nn : Nat)) := by simp only [World.cell?, E33]; rw [Array.getElem?_append_left (by simp)]; rfl
        have mA := Tryd.mAt_fold k nm (nn : Nat) w3 k03 k13
        clear mN hgrow3
        go_wp2_with fail
        refine (mark_at nm (nn : Nat) w3).mono ?_
        rintro e wb ⟨rfl, gb⟩
        obtain ⟨E3b, grb, RNb, RAb, hzb, _⟩ := sg_one hown3 RA3 gr3 hkl E33 gb
        go_wp2_with (at_builtin; go_must (refine wpList_append_lies _ rfl (.tmp 22) (.tmp 25) 43 rfl w2.heap.size 3 i2 _ 1 8 Tryd.underlying43 hi' hz0' hz1' hz2' rfl (by decide) (.slice ao4 q cap4) q _ rfl (World.ownsRow.alloc RAb _) ⟨wb.heap.size, 0, none⟩ 1 1 [.int .i64 (nn : Nat)] rfl rfl ?q1 ?q2 (by omega) ?q3 ?q4 ?q5 (wb.heap.size + 1) ?q6 ?_))
        case q1 => exact World.news_of_block (heap_alloc_new _ _)
        case q2 => simp [Value.oneCell']
        case q3 => unfold maxLen; omega
        case q4 => omega
        case q5 => simp; omega
        case q6 => simp
        intro g4 cap6 w4 hown4 hgrow4 hat4 hlt4
        obtain ⟨RN4, _, gr4⟩ := sg_app (by decide) RAb RNb grb hkl E3b hgrow4
        have rel4 : SgRel w2 w4 L (.slice (some ⟨g3, 0, none⟩) (q + 1) cap5) (.slice (some ⟨g4, 0, none⟩) (q + 1) cap6) (q + 1) := ⟨by omega, by rw [N1.out]; exact RN4, by rw [N2.out]; exact hown4, gr4⟩
        clear mA hgrow4 RN4 hown4 RNb RAb hown3 RA3 RN RA
        go_wp2
        exact ⟨⟨q + 1, by simp, rel4⟩, by simp [intOf]; omega⟩
      · have mN := Tryd.mName_both k nm (nn : Nat) wr k0 k1
        go_wp2_with fail
        refine (mark_name nm (nn : Nat) wr).mono ?_
        rintro e wa ⟨rfl, ga⟩
        obtain ⟨E3a, gra, RN, RA, hza, _⟩ := sg_one rnm rat gr hkl E3.out ga
        go_wp2_with (at_builtin; go_must (refine wpList_append_lies _ rfl (.tmp 17) (.tmp 20) 42 rfl w2.heap.size 9 i1 _ 1 16 Tryd.underlying42 hi hz0 hz1 hz2 rfl (by decide) (.slice ao3 q cap3) q _ rfl (World.ownsRow.alloc RN _) ⟨wa.heap.size, 0, none⟩ 1 1 [.string nm] rfl rfl ?m1 ?m2 (by omega) ?m3 ?m4 ?m5 (wa.heap.size + 1) ?m6 ?_))
        case m1 => exact World.news_of_block (heap_alloc_new _ _)
        case m2 => simp [Value.oneCell']
        case m3 => unfold maxLen; omega
        case m4 => omega
        case m5 => simp; omega
        case m6 => simp
        intro g3 cap5 w3 hown3 hgrow3 hat3 hlt3
        obtain ⟨RA3, E33, gr3⟩ := sg_app (by decide) RN RA gra hkl E3a hgrow3
        have k03 : w3.cell? ⟨k, 0, none⟩ = some (.string nm) := by simp only [World.cell?, E33]; rw [Array.getElem?_append_left (by simp)]; rfl
        have k13 : w3.cell? ⟨k, 1, none⟩ = some (.int .i64 (nn : Nat)) := by simp only [World.cell?, E33]; rw [Array.getElem?_append_left (by simp)]; rfl
        have mA := Tryd.mAt_both k nm (nn : Nat) w3 k03 k13
        clear mN hgrow3
        go_wp2_with fail
        refine (mark_at nm (nn : Nat) w3).mono ?_
        rintro e wb ⟨rfl, gb⟩
        obtain ⟨E3b, grb, RNb, RAb, hzb, _⟩ := sg_one hown3 RA3 gr3 hkl E33 gb
        go_wp2_with (at_builtin; go_must (refine wpList_append_lies _ rfl (.tmp 22) (.tmp 25) 43 rfl w2.heap.size 3 i2 _ 1 8 Tryd.underlying43 hi' hz0' hz1' hz2' rfl (by decide) (.slice ao4 q cap4) q _ rfl (World.ownsRow.alloc RAb _) ⟨wb.heap.size, 0, none⟩ 1 1 [.int .i64 (nn : Nat)] rfl rfl ?r1 ?r2 (by omega) ?r3 ?r4 ?r5 (wb.heap.size + 1) ?r6 ?_))
        case r1 => exact World.news_of_block (heap_alloc_new _ _)
        case r2 => simp [Value.oneCell']
        case r3 => unfold maxLen; omega
        case r4 => omega
        case r5 => simp; omega
        case r6 => simp
        intro g4 cap6 w4 hown4 hgrow4 hat4 hlt4
        obtain ⟨RN4, _, gr4⟩ := sg_app (by decide) RAb RNb grb hkl E3b hgrow4
        have rel4 : SgRel w2 w4 L (.slice (some ⟨g3, 0, none⟩) (q + 1) cap5) (.slice (some ⟨g4, 0, none⟩) (q + 1) cap6) (q + 1) := ⟨by omega, by rw [N1.out]; exact RN4, by rw [N2.out]; exact hown4, gr4⟩
        clear mA hgrow4 RN4 hown4 RNb RAb hown3 RA3 RN RA
        go_wp2
        exact ⟨⟨q + 1, by simp, rel4⟩, by simp [intOf]; omega⟩
      · have mN := Tryd.mName_par k nm (nn : Nat) wr k0 k1
        go_wp2_with fail
        refine (mark_name nm (nn : Nat) wr).mono ?_
        rintro e wa ⟨rfl, ga⟩
        obtain ⟨E3a, gra, RN, RA, hza, _⟩ := sg_one rnm rat gr hkl E3.out ga
        go_wp2_with (at_builtin; go_must (refine wpList_append_lies _ rfl (.tmp 17) (.tmp 20) 42 rfl w2.heap.size 9 i1 _ 1 16 Tryd.underlying42 hi hz0 hz1 hz2 rfl (by decide) (.slice ao3 q cap3) q _ rfl (World.ownsRow.alloc RN _) ⟨wa.heap.size, 0, none⟩ 1 1 [.string nm] rfl rfl ?n1 ?n2 (by omega) ?n3 ?n4 ?n5 (wa.heap.size + 1) ?n6 ?_))
        case n1 => exact World.news_of_block (heap_alloc_new _ _)
        case n2 => simp [Value.oneCell']
        case n3 => unfold maxLen; omega
        case n4 => omega
        case n5 => simp; omega
        case n6 => simp
        intro g3 cap5 w3 hown3 hgrow3 hat3 hlt3
        obtain ⟨RA3, E33, gr3⟩ := sg_app (by decide) RN RA gra hkl E3a hgrow3
        have k03 : w3.cell? ⟨k, 0, none⟩ = some (.string nm) := by simp only [World.cell?, E33]; rw [Array.getElem?_append_left (by simp)]; rfl
        have k13 : w3.cell? ⟨k, 1, none⟩ = some (.int .i64 (nn : Nat)) := by simp only [World.cell?, E33]; rw [Array.getElem?_append_left (by simp)]; rfl
        have mA := Tryd.mAt_par k nm (nn : Nat) w3 k03 k13
        clear mN hgrow3
        go_wp2_with fail
        refine (mark_at nm (nn : Nat) w3).mono ?_
        rintro e wb ⟨rfl, gb⟩
        obtain ⟨E3b, grb, RNb, RAb, hzb, _⟩ := sg_one hown3 RA3 gr3 hkl E33 gb
        go_wp2_with (at_builtin; go_must (refine wpList_append_lies _ rfl (.tmp 22) (.tmp 25) 43 rfl w2.heap.size 3 i2 _ 1 8 Tryd.underlying43 hi' hz0' hz1' hz2' rfl (by decide) (.slice ao4 q cap4) q _ rfl (World.ownsRow.alloc RAb _) ⟨wb.heap.size, 0, none⟩ 1 1 [.int .i64 (nn : Nat)] rfl rfl ?s1 ?s2 (by omega) ?s3 ?s4 ?s5 (wb.heap.size + 1) ?s6 ?_))
        case s1 => exact World.news_of_block (heap_alloc_new _ _)
        case s2 => simp [Value.oneCell']
        case s3 => unfold maxLen; omega
        case s4 => omega
        case s5 => simp; omega
        case s6 => simp
        intro g4 cap6 w4 hown4 hgrow4 hat4 hlt4
        obtain ⟨RN4, _, gr4⟩ := sg_app (by decide) RAb RNb grb hkl E3b hgrow4
        have rel4 : SgRel w2 w4 L (.slice (some ⟨g3, 0, none⟩) (q + 1) cap5) (.slice (some ⟨g4, 0, none⟩) (q + 1) cap6) (q + 1) := ⟨by omega, by rw [N1.out]; exact RN4, by rw [N2.out]; exact hown4, gr4⟩
        clear mA hgrow4 RN4 hown4 RNb RAb hown3 RA3 RN RA
        go_wp2
        exact ⟨⟨q + 1, by simp, rel4⟩, by simp [intOf]; omega⟩
    · have hq2 : q = L.length := by omega
      subst hq2
      have hjd : ¬ ((L.length : Int) < (L.length : Int)) := by omega
      have tk : L.take L.length = L := List.take_length
      rw [tk] at rnm rat
      go_wp2
      go_ret2
      exact ⟨_, _, rfl, w2.heap.size, g2.size, rnm, rat, g2.trans gr⟩
end Go.Proofs.YtdfkjgogdbeokaaDoor
