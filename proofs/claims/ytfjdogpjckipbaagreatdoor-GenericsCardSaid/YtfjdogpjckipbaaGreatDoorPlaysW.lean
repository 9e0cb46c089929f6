/-
  DERIVED. flowlinelaw.plays at a step of Fold, Keep and Tally; flowlinelaw.UpTo, whatever the kind; flowlinelaw.Generics.
-/
import Derived.Test.YtfjdogpjckipbaaGreatDoorGenW
namespace Go.Proofs.YtfjdogpjckipbaaGreatDoor
open Go.RowKit

/-- A step of a script. -/
structure OpD where
  kd : Int
  a : Int
  b : Int
  s : ByteArray
  t : ByteArray
  ia : Option Addr
  ic : Nat
  xs : List It
def OpD.cells (o : OpD) : List Value := [.int .i64 o.kd, .int .i64 o.a, .int .i64 o.b, .string o.s, .string o.t, .slice o.ia o.xs.length o.ic]
def OpD.v (o : OpD) : Value := .agg #[.int .i64 o.kd, .int .i64 o.a, .int .i64 o.b, .string o.s, .string o.t, .slice o.ia o.xs.length o.ic]
/-- The numbers of an item that came in fit their kinds. -/
structure It.rok (x : It) : Prop where
  k : (Lit.int .i64 x.k).wf = true
  s : x.s.size ≤ maxLen
  re : (Lit.int .i64 x.re).wf = true
  im : (Lit.int .i64 x.im).wf = true
structure OpOk (w : World) (o : OpD) : Prop where
  rd : Reads w (.slice o.ia o.xs.length o.ic) 5 o.xs.length (o.xs.flatMap It.rc)
  len : o.xs.length * 48 ≤ 140737488351232
  ok : ∀ y ∈ o.xs, y.rok
theorem OpOk.below {w w' : World} {o : OpD} (h : OpOk w o) (hb : Below w.heap.size w w') : OpOk w' o := ⟨h.rd.below hb, h.len, h.ok⟩

theorem given_ok {x : It} (h : x.rok) : (It.given (It.kept x)).ok := ⟨h.k, wrap32_wf _, h.s, h.re, h.im⟩

theorem kept_len (w : World) (xs : List It) (n : Nat) (hn : xs.length = n) (ap : Option Addr) (cap : Nat) (hr : Reads w (.slice ap n cap) 5 n (xs.flatMap It.rc)) (kd A Bb : Int) (S T : ByteArray) (hlen : n * 48 ≤ 140737488351232) (hok : ∀ y ∈ xs, (It.given y).ok) :
    Calls Tryz.prog 35 #[.agg #[.int .i64 kd, .int .i64 A, .int .i64 Bb, .string S, .string T, .slice ap n cap]] w fun e w' => e = .returned (.bool true) ∧ Below w.heap.size w w' := by
  subst hn; exact generic_any w xs kd A Bb S T ap cap hr hlen hok

set_option maxRecDepth 100000 in
set_option maxHeartbeats 1000000 in
theorem plays8 (w : World) (o : OpD) (ho : OpOk w o) (h8 : o.kd = 8) :
    Calls Tryz.prog 19 #[o.v] w fun e w' => e = .returned (.bool true) ∧ Below w.heap.size w w' := by
  obtain ⟨kd, a, b, s, t, ia, ic, xs⟩ := o
  simp only at h8
  subst h8
  have hba : Below w.heap.size w (w.alloc (.cells #[.int .i64 8, .int .i64 a, .int .i64 b, .string s, .string t, .slice ia xs.length ic] 28)) := (Below.refl _ _).alloc (Nat.le_refl _) _
  have hra : Reads _ (.slice ia xs.length ic) 5 xs.length (xs.flatMap It.rc) := ho.rd.below hba
  have hlen : xs.length * 48 ≤ 140737488351232 := ho.len
  have HOK : Hid (∀ y ∈ xs.map It.kept, (It.given y).ok) := fun y hy => by
    obtain ⟨x, hx, rfl⟩ := List.mem_map.1 hy
    exact given_ok (ho.ok x hx)
  unfold OpD.v
  go_enter Tryz.func19, Tryz.ntmps19
  go_wp2_with fail
  refine (kept_any _ xs ia ic hra hlen).mono ?_
  rintro e w1 ⟨v, rfl, hv, hb1⟩
  obtain ⟨a1, c1, h1, _⟩ := Reads.of_owns hv
  subst h1
  have r1 := Reads.of_owns hv
  obtain ⟨hc, hf⟩ := bcell' hb1
  have hz : w.heap.size < w1.heap.size := by have := hb1.size; simp at this; omega
  have c0 : w1.cell? ⟨w.heap.size, 0, none⟩ = some (.int .i64 8) := by rw [hc _ _ (by simp)]; simp [go_sem]
  have c1' : w1.cell? ⟨w.heap.size, 1, none⟩ = some (.int .i64 a) := by rw [hc _ _ (by simp)]; simp [go_sem]
  have c2 : w1.cell? ⟨w.heap.size, 2, none⟩ = some (.int .i64 b) := by rw [hc _ _ (by simp)]; simp [go_sem]
  have c3 : w1.cell? ⟨w.heap.size, 3, none⟩ = some (.string s) := by rw [hc _ _ (by simp)]; simp [go_sem]
  have c4 : w1.cell? ⟨w.heap.size, 4, none⟩ = some (.string t) := by rw [hc _ _ (by simp)]; simp [go_sem]
  have c5 : w1.cell? ⟨w.heap.size, 5, none⟩ = some (.slice ia xs.length ic) := by rw [hc _ _ (by simp)]; simp [go_sem]
  have f5 : w1.frozen? ⟨w.heap.size, 5, none⟩ = false := by rw [hf _ _ (by simp)]; simp [go_sem]
  have r2 := Reads.of_owns (ownsRow_setCell_below hv (a := ⟨w.heap.size, 5, none⟩) (by simp) (.slice a1 xs.length c1))
  clear hc hf hv r1
  go_wp2_with fail
  refine (kept_len _ (xs.map It.kept) xs.length (by simp) a1 c1 r2 8 a b s t hlen HOK.out).mono ?_
  rintro e w2 ⟨rfl, hb2⟩
  go_wp2
  try rw [Exit.noGoto_ret]
  go_ret
  refine ⟨rfl, ((hba.trans (hb1.mono (by simp))).setCell (Nat.le_refl _) _).trans (hb2.mono (by simp; omega))⟩

/-- The cells of an element, whatever the element. -/
theorem flat_at {α : Type} {cells : α → List Value} {sz : Nat} (hc : ∀ x, (cells x).length = sz) : ∀ (xs : List α) (i j : Nat) (x : α), xs[i]? = some x → j < sz → (xs.flatMap cells)[i * sz + j]? = (cells x)[j]?
  | [], _, _, _, h, _ => by simp at h
  | y :: ys, 0, j, x, h, hj => by
    simp at h
    subst h
    simp [List.getElem?_append, hc, hj]
  | y :: ys, i + 1, j, x, h, hj => by
    have h' : ys[i]? = some x := by simpa using h
    have := flat_at hc ys i j x h' hj
    rw [List.flatMap_cons, List.getElem?_append_right (by rw [hc, Nat.add_mul]; omega), hc, show (i + 1) * sz + j - sz = i * sz + j from by rw [Nat.add_mul]; omega]
    exact this
theorem Reads.elem {α : Type} {w : World} {v : Value} {n sz : Nat} {cells : α → List Value} {xs : List α} (hsz : 0 < sz) (hc : ∀ x, (cells x).length = sz) (h : Reads w v sz n (xs.flatMap cells)) (i : Nat) (hi : i < xs.length) :
    ∃ b o cap, v = .slice (some ⟨b, o, none⟩) n cap ∧ b < w.heap.size ∧ ∀ j u, j < sz → (cells xs[i])[j]? = some u → w.cell? ⟨b, o + i * sz + j, none⟩ = some u := by
  obtain ⟨ap, cap, rfl, hl, hcell⟩ := h
  have hx : xs[i]? = some xs[i] := List.getElem?_eq_getElem hi
  have h0 : (xs.flatMap cells)[i * sz + 0]? = some ((cells xs[i])[0]'(by rw [hc]; omega)) := by
    rw [flat_at hc xs i 0 _ hx hsz]; exact List.getElem?_eq_getElem (by rw [hc]; omega)
  obtain ⟨b, o, rfl, hlt, _⟩ := hcell _ _ h0
  refine ⟨b, o, cap, rfl, hlt, fun j u hj hu => ?_⟩
  have hj' := flat_at hc xs i j _ hx hj
  rw [hu] at hj'
  obtain ⟨b', o', e, _, hc'⟩ := hcell _ _ hj'
  simp only [Option.some.injEq, Addr.mk.injEq, and_true] at e
  obtain ⟨rfl, rfl⟩ := e
  rw [Nat.add_assoc]
  exact hc'
theorem op_six (o : OpD) : o.cells.length = 6 := rfl

set_option maxRecDepth 100000 in
set_option maxHeartbeats 1000000 in
theorem upto_any (w : World) (ops : List OpD) (ap : Option Addr) (cap : Nat) (m : Int) (hr : Reads w (.slice ap ops.length cap) 6 ops.length (ops.flatMap OpD.cells)) (hlen : ops.length * 80 ≤ 140737488351232)
    (hp : ∀ o ∈ ops, o.kd = m → ∀ W : World, Below w.heap.size w W → Calls Tryz.prog 19 #[o.v] W fun e w' => e = .returned (.bool true) ∧ Below W.heap.size W w') :
    Calls Tryz.prog 13 #[.slice ap ops.length cap, .int .i64 m, .int .i64 m] w fun e w' => e = .returned (.int .i64 (-1)) ∧ Below w.heap.size w w' := by
  have HP : Hid (∀ o ∈ ops, o.kd = m → ∀ W : World, Below w.heap.size w W → Calls Tryz.prog 19 #[o.v] W fun e w' => e = .returned (.bool true) ∧ Below W.heap.size W w') := hp
  clear hp
  go_enter Tryz.func13, Tryz.ntmps13
  go_wp2
  go_loopw [7] (fun t wr => ∃ k : Nat, k ≤ ops.length ∧ t = .int .i64 k ∧ Below w.heap.size w wr) (fun t _ => ops.length - (intOf t).toNat)
  case atStart => exact ⟨0, Nat.zero_le _, rfl, Below.refl _ _⟩
  case round =>
    obtain ⟨k, hk, rfl, hb⟩ := hrel
    by_cases hlt : k < ops.length
    · obtain ⟨b, o, cap', hvv, hbl, hc⟩ := hr.elem (by omega) op_six k hlt
      cases hvv
      have HQ : Hid (ops[k].kd = m → ∀ W : World, Below w.heap.size w W → Calls Tryz.prog 19 #[ops[k].v] W fun e w' => e = .returned (.bool true) ∧ Below W.heap.size W w') := HP.out ops[k] (List.getElem_mem hlt)
      have hcr : ∀ j u, j < 6 → (OpD.cells ops[k])[j]? = some u → wr.cell? ⟨b, o + k * 6 + j, none⟩ = some u := fun j u hj hu => by rw [hb.cell (p := ⟨b, o + k * 6 + j, none⟩) hbl]; exact hc j u hj hu
      have s0 : wr.cell? ⟨b, o + k * 6, none⟩ = some (.int .i64 ops[k].kd) := hcr 0 _ (by omega) rfl
      have s1 := hcr 1 _ (by omega) rfl
      have s2 := hcr 2 _ (by omega) rfl
      have s3 := hcr 3 _ (by omega) rfl
      have s4 := hcr 4 _ (by omega) rfl
      have s5 := hcr 5 _ (by omega) rfl
      have hk60 : (k : Int) < 1152921504606846976 := by omega
      clear hc hcr
      by_cases hkd : ops[k].kd = m
      · have HQ' := HQ.out hkd
        have h1 : m ≤ ops[k].kd := by omega
        have h2 : ops[k].kd ≤ m := by omega
        have HC : Hid (∀ W : World, Below w.heap.size w W → Calls Tryz.prog 19 #[ops[k].v] W fun e w' => e = .returned (.bool true) ∧ Below W.heap.size W w') := HQ'
        have hba := hb.alloc hb.size (.cells #[.int .i64 ops[k].kd, .int .i64 ops[k].a, .int .i64 ops[k].b, .string ops[k].s, .string ops[k].t, .slice ops[k].ia ops[k].xs.length ops[k].ic] 28)
        clear HQ' hkd HQ
        go_wp2_with fail
        refine (HC.out _ hba).mono ?_
        rintro e w1 ⟨rfl, hb1⟩
        go_wp2
        exact ⟨⟨k + 1, by omega, by go_num, hba.trans (hb1.mono hba.size)⟩, by simp [intOf]; omega⟩
      · clear HQ
        by_cases hge : m ≤ ops[k].kd
        · have hle : ¬ ops[k].kd ≤ m := by omega
          go_wp2
          exact ⟨⟨k + 1, by omega, by go_num, hb.alloc hb.size _⟩, by simp [intOf]; omega⟩
        · go_wp2
          exact ⟨⟨k + 1, by omega, by go_num, hb.alloc hb.size _⟩, by simp [intOf]; omega⟩
    · obtain rfl : k = ops.length := by omega
      go_wp2
      go_ret
      exact ⟨rfl, hb⟩

theorem generics_any (w : World) (ops : List OpD) (ap : Option Addr) (cap : Nat) (hr : Reads w (.slice ap ops.length cap) 6 ops.length (ops.flatMap OpD.cells)) (hlen : ops.length * 80 ≤ 140737488351232) (ho : ∀ o ∈ ops, OpOk w o) :
    Calls Tryz.prog 4 #[.slice ap ops.length cap] w fun e w' => e = .returned (.bool true) ∧ Below w.heap.size w w' := by
  go_enter Tryz.func4, Tryz.ntmps4
  go_wp2_with fail
  refine (upto_any w ops ap cap 8 hr hlen (fun o hm h8 W hW => plays8 W o ((ho o hm).below hW) h8)).mono ?_
  rintro e w1 ⟨rfl, hb1⟩
  go_wp2
  go_ret
  exact ⟨rfl, hb1⟩
end Go.Proofs.YtfjdogpjckipbaaGreatDoor
