/-
  DERIVED. flowlinelaw.generic: the loop.
-/
import Derived.Test.YtfjdogpjckipbaaGreatDoorTalliedW
import Derived.Maps.AppendAt
namespace Go.Proofs.YtfjdogpjckipbaaGreatDoor
open Go.RowKit

/-- A row of another type, or of another block, stays where a row is appended to. -/
theorem keep_type {w w2 : World} {B : Nat} {e e' : TypeId} {sz sz' n m : Nat} {u v : Value} {xs ys : List Value} (h : w.ownsRow B e sz u n xs) (hv : w.ownsRow B e' sz' v m ys) (hne : e ≠ e') (o : Obj) (hg : (w.alloc o).grownBy w2 v.ownBlock) : w2.ownsRow B e sz u n xs := by
  refine owns_grown (h.alloc o) hg (fun q hq e1 => ?_)
  obtain ⟨_, c, hc⟩ := owns_block h q hq
  obtain ⟨_, c', hc'⟩ := owns_block hv q e1.symm
  rw [hc] at hc'
  simp only [Option.some.injEq, Obj.cells.injEq] at hc'
  exact hne hc'.2.1
theorem keep_apart {w w2 : World} {B : Nat} {e : TypeId} {sz n : Nat} {u v : Value} {xs : List Value} (h : w.ownsRow B e sz u n xs) (hne : ∀ q, u.ownBlock = some q → v.ownBlock ≠ some q) (o : Obj) (hg : (w.alloc o).grownBy w2 v.ownBlock) : w2.ownsRow B e sz u n xs :=
  owns_grown (h.alloc o) hg (fun q hq e1 => hne q hq e1.symm)
theorem below_app {a w w2 : World} {B : Nat} {e : TypeId} {sz n : Nat} {v : Value} {xs : List Value} (hb : Below B a w) (hB : B ≤ w.heap.size) (hv : w.ownsRow B e sz v n xs) (o : Obj) (hg : (w.alloc o).grownBy w2 v.ownBlock) : Below B a w2 :=
  (hb.alloc hB o).grown hg (by simp; omega) (fun q hq => owns_row hv q hq)

def longs (A : Int) (ys : List It) : List ByteArray := (ys.map It.s).filter (longer A)
theorem longs_snoc (A : Int) (ys : List It) (x : It) : longs A (ys ++ [x]) = longs A ys ++ (if longer A x.s then [x.s] else []) := by
  unfold longs
  rw [List.map_append, List.filter_append]
  cases h : longer A x.s <;> simp [h]
theorem longs_len (A : Int) (ys : List It) : (longs A ys).length ≤ ys.length := Nat.le_trans (List.length_filter_le _ _) (by simp)

/-- What the loop has gathered. -/
structure GRel (B : Nat) (a wr : World) (ys : List It) (A : Int) (p3 p4 p6 : Value) : Prop where
  ns : wr.ownsRow B 3 1 p3 ys.length (ys.map fun x => .int .i64 x.n)
  ws : wr.ownsRow B 9 1 p4 ys.length (ys.map fun x => .string x.s)
  lg : wr.ownsRow B 9 1 p6 (longs A ys).length ((longs A ys).map Value.string)
  ap : ∀ q, p4.ownBlock = some q → p6.ownBlock ≠ some q
  bl : Below B a wr
  bs : B ≤ wr.heap.size

theorem folded_len (w : World) (ns : List Int) (n : Nat) (hn : ns.length = n) (ap : Option Addr) (cap : Nat) (hr : Reads w (.slice ap n cap) 1 n (ns.map (Value.int .i64))) (hlen : n ≤ 140737488351232) :
    Calls Tryz.prog 60 #[.slice ap n cap] w fun e w' => e = .returned (.string (bytesOf ⟨#[]⟩ ns)) ∧ Below w.heap.size w w' := by
  subst hn; exact folded_any w ns ap cap hr hlen
theorem keptList_len (w : World) (ss : List ByteArray) (m : Nat) (hm : ss.length = m) (n : Int) (ap : Option Addr) (cap : Nat) (hr : Reads w (.slice ap m cap) 1 m (ss.map Value.string)) (hlen : m * 16 ≤ 140737488351232) :
    Calls Tryz.prog 61 #[.slice ap m cap, .int .i64 n] w fun e w' => ∃ v, e = .returned v ∧ w'.ownsRow w.heap.size 9 1 v (ss.filter (longer n)).length ((ss.filter (longer n)).map Value.string) ∧ Below w.heap.size w w' := by
  subst hm; exact keptList_any w ss n ap cap hr hlen
theorem tallied_len (w : World) (xs : List It) (n : Nat) (hn : xs.length = n) (ap : Option Addr) (cap : Nat) (hr : Reads w (.slice ap n cap) 5 n (xs.flatMap It.fc)) (hok : ∀ y ∈ xs, y.ok) (hlen : n * 48 ≤ 140737488351232) :
    Calls Tryz.prog 62 #[.slice ap n cap] w fun e w' => e = .returned (.bool true) ∧ Below w.heap.size w w' := by
  subst hn; exact talliedLaw_any w xs ap cap hr hok hlen
theorem grel_mk {B : Nat} {a wr : World} {Y : List It} {x : It} {A : Int} {p3 p4 p6 : Value} (h3 : wr.ownsRow B 3 1 p3 (Y.length + 1) (Y.map (fun x => .int .i64 x.n) ++ [.int .i64 x.n])) (h4 : wr.ownsRow B 9 1 p4 (Y.length + 1) (Y.map (fun x => .string x.s) ++ [.string x.s]))
    (h6 : wr.ownsRow B 9 1 p6 (longs A (Y ++ [x])).length ((longs A (Y ++ [x])).map Value.string)) (hap : ∀ q, p4.ownBlock = some q → p6.ownBlock ≠ some q) (hb : Below B a wr) (hs : B ≤ wr.heap.size) : GRel B a wr (Y ++ [x]) A p3 p4 p6 :=
  ⟨by simpa using h3, by simpa using h4, h6, hap, hb, hs⟩

set_option maxRecDepth 100000 in
set_option maxHeartbeats 1000000 in
theorem generic_any (w : World) (xs : List It) (kd A Bb : Int) (S T : ByteArray) (ia : Option Addr) (ic : Nat) (hr : Reads w (.slice ia xs.length ic) 5 xs.length (xs.flatMap It.rc)) (hlen : xs.length * 48 ≤ 140737488351232) (hok : ∀ y ∈ xs, (It.given y).ok) :
    Calls Tryz.prog 35 #[.agg #[.int .i64 kd, .int .i64 A, .int .i64 Bb, .string S, .string T, .slice ia xs.length ic]] w fun e w' => e = .returned (.bool true) ∧ Below w.heap.size w w' := by
  obtain ⟨i0, hi, hz0, hz1, hz2⟩ := info_parts Tryz.infoStr
  obtain ⟨j0, gi, gz0, gz1, gz2⟩ := info_parts Tryz.infoInt
  have hba : Below w.heap.size w (w.alloc (.cells #[.int .i64 kd, .int .i64 A, .int .i64 Bb, .string S, .string T, .slice ia xs.length ic] 28)) := (Below.refl _ _).alloc (Nat.le_refl _) _
  have hx1 : (w.alloc (.cells #[.int .i64 kd, .int .i64 A, .int .i64 Bb, .string S, .string T, .slice ia xs.length ic] 28)).cell? ⟨w.heap.size, 1, none⟩ = some (.int .i64 A) := by rw [World.cell?_alloc_new]; rfl
  have hx5 : (w.alloc (.cells #[.int .i64 kd, .int .i64 A, .int .i64 Bb, .string S, .string T, .slice ia xs.length ic] 28)).cell? ⟨w.heap.size, 5, none⟩ = some (.slice ia xs.length ic) := by rw [World.cell?_alloc_new]; rfl
  have hsz : (w.alloc (.cells #[.int .i64 kd, .int .i64 A, .int .i64 Bb, .string S, .string T, .slice ia xs.length ic] 28)).heap.size = w.heap.size + 1 := by simp
  go_enter Tryz.func35, Tryz.ntmps35
  go_wp2
  have HX1 := hx1
  generalize hwa : w.alloc (.cells #[.int .i64 kd, .int .i64 A, .int .i64 Bb, .string S, .string T, .slice ia xs.length ic] 28) = wa at *
  have HWA : Hid (w.alloc (.cells #[.int .i64 kd, .int .i64 A, .int .i64 Bb, .string S, .string T, .slice ia xs.length ic] 28) = wa) := hwa
  clear hwa HX1
  have hra := hr.below hba
  go_loopw [3, 4, 5, 6, 7] (fun p3 p4 p5 p6 t wr => ∃ k : Nat, k ≤ xs.length ∧ t = .int .i64 k ∧ p5 = .string (bytesOf ⟨#[]⟩ ((xs.take k).map It.n)) ∧ GRel (w.heap.size + 1) wa wr (xs.take k) A p3 p4 p6) (fun _ _ _ _ t _ => xs.length - (intOf t).toNat)
  case atStart => exact ⟨0, Nat.zero_le _, rfl, rfl, ⟨World.ownsRow_nil _ _ _ _, World.ownsRow_nil _ _ _ _, World.ownsRow_nil _ _ _ _, (fun q hq => by cases hq), Below.refl _ _, by omega⟩⟩
  case round =>
    obtain ⟨k, hk, rfl, rfl, R⟩ := hrel
    by_cases hlt : k < xs.length
    · obtain ⟨b, o, cap', hvv, hbl, hc⟩ := hra.five rc_five k hlt
      cases hvv
      have hbl' : b < w.heap.size + 1 := by omega
      have hcr : ∀ j u, j < 5 → (It.rc xs[k])[j]? = some u → wr.cell? ⟨b, o + k * 5 + j, none⟩ = some u := fun j u hj hu => by rw [R.bl.cell (p := ⟨b, o + k * 5 + j, none⟩) hbl', Nat.add_assoc]; exact hc j u hj hu
      have n1 := hcr 1 _ (by omega) rfl
      have n2 := hcr 2 _ (by omega) rfl
      have x5 : wr.cell? ⟨w.heap.size, 5, none⟩ = some (.slice (some ⟨b, o, none⟩) xs.length ic) := by rw [R.bl.cell (p := ⟨w.heap.size, 5, none⟩) (Nat.lt_succ_self _)]; exact hx5
      have HT : Hid (xs.take (k + 1) = xs.take k ++ [xs[k]]) := take_snoc' xs k hlt
      have hyl : (xs.take k).length ≤ k := by simp; omega
      have hbz : (bytesOf ⟨#[]⟩ ((xs.take k).map It.n)).size ≤ k := by rw [bytesOf_size]; have : (ByteArray.mk #[]).size = 0 := rfl; simp [List.length_take]; omega
      generalize hY : xs.take k = Y at *
      have hll := longs_len A Y
      have HR : Hid (GRel (w.heap.size + 1) wa wr Y A u3 u4 u6) := R
      have hns := R.ns
      have hbs := R.bs
      clear hc hcr R hY
      go_wp2_with (at_builtin; go_must (refine wpList_append_own_at _ rfl (.tmp 34) (.tmp 36) 103 rfl (w.heap.size + 1) 3 j0 _ 1 8 Tryz.underlying103 gi gz0 gz1 gz2 rfl (by decide) _ _ _ rfl (hns.alloc _) ⟨wr.heap.size, 0, none⟩ 1 1 [.int .i64 xs[k].n] rfl rfl ?c1 ?c2 ?c3 ?c4 ?c5 ?_))
      case c1 => exact cell_one_new _ _ _
      case c2 => intro u hu; simp at hu; subst hu; rfl
      case c3 => unfold maxLen; omega
      case c4 => omega
      case c5 => simp; omega
      intro p3' w2 hown2 hg2 _ _
      have hws2 := keep_type HR.out.ws hns (by decide) _ hg2
      have hlg2 := keep_type HR.out.lg hns (by decide) _ hg2
      have hb2 := below_app HR.out.bl hbs hns _ hg2
      have hbs2 : w.heap.size + 1 ≤ w2.heap.size := Nat.le_trans hbs (by have := hg2.size; simp at this; omega)
      have HN2 : Hid (w2.ownsRow (w.heap.size + 1) 3 1 p3' (Y.length + 1) (Y.map (fun x => .int .i64 x.n) ++ [.int .i64 xs[k].n])) := hown2
      clear hg2 hown2 hns
      go_wp2_with (at_builtin; go_must (refine wpList_append_own_at _ rfl (.tmp 38) (.tmp 40) 73 rfl (w.heap.size + 1) 9 i0 _ 1 16 Tryz.underlying73 hi hz0 hz1 hz2 rfl (by decide) _ _ _ rfl (hws2.alloc _) ⟨w2.heap.size, 0, none⟩ 1 1 [.string xs[k].s] rfl rfl ?d1 ?d2 ?d3 ?d4 ?d5 ?_))
      case d1 => exact cell_one_new _ _ _
      case d2 => intro u hu; simp at hu; subst hu; rfl
      case d3 => unfold maxLen; omega
      case d4 => omega
      case d5 => simp; omega
      intro p4' w3 hown3 hg3 _ hat3
      have hns3 := keep_type HN2.out hws2 (by decide) _ hg3
      have hlg3 := keep_apart hlg2 (fun q hq e => HR.out.ap q e hq) _ hg3
      have hap3 : ∀ q, p4'.ownBlock = some q → u6.ownBlock ≠ some q := fun q hq e => by
        rcases hat3 with h | h
        · exact HR.out.ap q (h.symm.trans hq) e
        · have h1 := (owns_block hlg2 q e).1
          rw [h] at hq
          cases hq
          first | omega | (simp at h1; omega)
      have hb3 := below_app hb2 hbs2 hws2 _ hg3
      have hbs3 : w.heap.size + 1 ≤ w3.heap.size := Nat.le_trans hbs2 (by have := hg3.size; simp at this; omega)
      have HW3 : Hid (w3.ownsRow (w.heap.size + 1) 9 1 p4' (Y.length + 1) (Y.map (fun x => .string x.s) ++ [.string xs[k].s])) := hown3
      have hcv := conv1 xs[k].n w3
      have x1 : w3.cell? ⟨w.heap.size, 1, none⟩ = some (.int .i64 A) := by rw [hb3.cell (p := ⟨w.heap.size, 1, none⟩) (Nat.lt_succ_self _)]; exact hx1
      have hlt3 : w.heap.size < w3.heap.size := by omega
      clear hg3 hown3 hws2 hlg2 hat3
      cases hlg : longer A xs[k].s
      · have hlo : ¬ A < (xs[k].s.size : Int) := by simpa [longer] using hlg
        have HL : Hid (longer A xs[k].s = false) := hlg
        clear hlg
        go_wp2
        refine ⟨⟨k + 1, by omega, by go_num, by rw [HT.out, List.map_append, List.map_cons, List.map_nil, bytesOf_snoc], ?_⟩, by simp [intOf]; omega⟩
        rw [HT.out]
        exact grel_mk (hns3.alloc _) (HW3.out.alloc _) (by rw [longs_snoc, HL.out]; simpa using hlg3.alloc _) hap3 (hb3.alloc hbs3 _) (by simp; omega)
      · have hlo : A < (xs[k].s.size : Int) := by simpa [longer] using hlg
        have HL : Hid (longer A xs[k].s = true) := hlg
        clear hlg
        have hlg3b := hlg3.alloc (.cells #[.int .u8 (xs[k].n % 256)] 5)
        go_wp2_with (at_builtin; go_must (refine wpList_append_own_at _ rfl (.tmp 53) (.tmp 55) 73 rfl (w.heap.size + 1) 9 i0 _ 1 16 Tryz.underlying73 hi hz0 hz1 hz2 rfl (by decide) _ _ _ rfl (hlg3b.alloc _) ⟨w3.heap.size + 1, 0, none⟩ 1 1 [.string xs[k].s] rfl rfl ?e1 ?e2 ?e3 ?e4 ?e5 ?_))
        case e1 =>
          intro j u hj
          have h := cell_one_new (w3.alloc (.cells #[.int .u8 (xs[k].n % 256)] 5)) (.string xs[k].s) 9 j u hj
          simpa using h
        case e2 => intro u hu; simp at hu; subst hu; rfl
        case e3 => unfold maxLen; omega
        case e4 => omega
        case e5 => simp; omega
        intro p6' w4 hown4 hg4 _ hat4
        have hns4 := keep_type (hns3.alloc _) hlg3b (by decide) _ hg4
        have hws4 := keep_apart (HW3.out.alloc (.cells #[.int .u8 (xs[k].n % 256)] 5)) hap3 _ hg4
        have hap4 : ∀ q, p4'.ownBlock = some q → p6'.ownBlock ≠ some q := fun q hq e => by
          rcases hat4 with h | h
          · exact hap3 q hq (h.symm.trans e)
          · have h1 := (owns_block HW3.out q hq).1
            rw [h] at e
            cases e
            first | omega | (simp at h1; omega)
        have hb4 := below_app (hb3.alloc hbs3 _) (by simp; omega) hlg3b _ hg4
        have hbs4 : w.heap.size + 1 ≤ w4.heap.size := Nat.le_trans hbs3 (by have := hg4.size; simp at this; omega)
        clear hg4 hat4 hcv
        go_wp2
        refine ⟨⟨k + 1, by omega, by go_num, by rw [HT.out, List.map_append, List.map_cons, List.map_nil, bytesOf_snoc], ?_⟩, by simp [intOf]; omega⟩
        rw [HT.out]
        exact grel_mk hns4 hws4 (by rw [longs_snoc, HL.out]; simpa using hown4) hap4 hb4 hbs4
    · obtain rfl : k = xs.length := by omega
      rw [List.take_length] at R ⊢
      have x1 : ∀ W : World, Below (w.heap.size + 1) wa W → W.cell? ⟨w.heap.size, 1, none⟩ = some (.int .i64 A) := fun W hW => by rw [hW.cell (p := ⟨w.heap.size, 1, none⟩) (Nat.lt_succ_self _)]; exact hx1
      have x5 : ∀ W : World, Below (w.heap.size + 1) wa W → W.cell? ⟨w.heap.size, 5, none⟩ = some (.slice ia xs.length ic) := fun W hW => by rw [hW.cell (p := ⟨w.heap.size, 5, none⟩) (Nat.lt_succ_self _)]; exact hx5
      have HX1 : Hid (∀ W : World, Below (w.heap.size + 1) wa W → W.cell? ⟨w.heap.size, 1, none⟩ = some (.int .i64 A)) := x1
      have HX5 : Hid (∀ W : World, Below (w.heap.size + 1) wa W → W.cell? ⟨w.heap.size, 5, none⟩ = some (.slice ia xs.length ic)) := x5
      have y5 := x5 wr R.bl
      clear x1 x5 hx1 hx5
      obtain ⟨a3, c3, h3, _⟩ := Reads.of_owns R.ns
      subst h3
      obtain ⟨a4, c4, h4, _⟩ := Reads.of_owns R.ws
      subst h4
      obtain ⟨a6, c6, h6, _⟩ := Reads.of_owns R.lg
      subst h6
      have r3 := Reads.of_owns R.ns
      have r4 := Reads.of_owns R.ws
      have r6 := Reads.of_owns R.lg
      rw [show (xs.map fun x => Value.int .i64 x.n) = (xs.map It.n).map (Value.int .i64) by simp] at r3
      rw [show (xs.map fun x => Value.string x.s) = (xs.map It.s).map Value.string by simp] at r4
      have hbl := R.bl
      have hbs := R.bs
      clear R hlt hk
      go_wp2_with fail
      refine (folded_len wr (xs.map It.n) xs.length (by simp) a3 c3 r3 (by omega)).mono ?_
      rintro e w5 ⟨rfl, hb5⟩
      have hbl5 := hbl.trans (hb5.mono hbs)
      have y1 := HX1.out w5 hbl5
      go_wp2_with fail
      refine (keptList_len w5 (xs.map It.s) xs.length (by simp) A a4 c4 (r4.below hb5) (by omega)).mono ?_
      rintro e w6 ⟨v6, rfl, hv6, hb6⟩
      have hbs5 := hb5.size
      have hbs6 := hb6.size
      have hbl6 := hbl5.trans (hb6.mono (by omega))
      have y6 := HX5.out w6 hbl6
      go_wp2_with fail
      refine (given_any w6 xs ia ic (hra.below (hbl6.mono (by omega))) hlen).mono ?_
      rintro e w7 ⟨v7, rfl, hv7, hb7⟩
      have hbs7 := hb7.size
      obtain ⟨a8, c8, h8, _⟩ := Reads.of_owns hv6
      subst h8
      have r8 := (Reads.of_owns hv6).below hb7
      have r9 := ((r6.below hb5).below hb6).below hb7
      obtain ⟨a7, c7, h7, _⟩ := Reads.of_owns hv7
      subst h7
      have r7 := Reads.of_owns hv7
      have hll := longs_len A xs
      go_wp2_with fail
      refine (named_same w7 (longs A xs) a8 a6 c8 c6 r8 r9 (by omega)).mono ?_
      rintro e w8 ⟨rfl, hb8⟩
      go_wp2_with fail
      refine (tallied_len w8 (xs.map It.given) xs.length (by simp) a7 c7 (r7.below hb8) (fun y hy => by obtain ⟨x, hx, rfl⟩ := List.mem_map.1 hy; exact hok x hx) hlen).mono ?_
      rintro e w9 ⟨rfl, hb9⟩
      have hbs8 := hb8.size
      go_wp2
      go_ret
      refine ⟨rfl, hba.trans ?_⟩
      have hfin := ((hbl6.trans (hb7.mono (by omega))).trans (hb8.mono (by omega))).trans (hb9.mono (by omega))
      exact hfin.mono (by omega)
end Go.Proofs.YtfjdogpjckipbaaGreatDoor
