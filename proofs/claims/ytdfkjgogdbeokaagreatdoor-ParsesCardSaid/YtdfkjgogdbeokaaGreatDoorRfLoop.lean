/-
  DERIVED. The reference's line: the walk.
-/
import Derived.Test.YtdfkjgogdbeokaaGreatDoorRfLine
namespace Go.Proofs.YtdfkjgogdbeokaaGreatDoor
open Go.RowKit
set_option linter.unusedVariables false

theorem lnGo_bad {S : Nat → List ByteArray → Bool × Nat × List ByteArray} {s : ByteArray} {c : UInt8} {f : Nat} {first : Bool} {R : Bool × Nat × List ByteArray} (h : R.1 = true) : lnGo S s c f first R = R := by
  cases f with
  | zero => rfl
  | succ f => unfold lnGo; rw [if_pos h]
theorem lnGo_over {S : Nat → List ByteArray → Bool × Nat × List ByteArray} {s : ByteArray} {c : UInt8} {f : Nat} {first : Bool} {R : Bool × Nat × List ByteArray} (h : overB s c R.2.1 = true) : lnGo S s c f first R = R := by
  cases f with
  | zero => rfl
  | succ f =>
    unfold lnGo
    rw [if_pos h, ite_self]
theorem lnGo_first {S : Nat → List ByteArray → Bool × Nat × List ByteArray} {s : ByteArray} {c : UInt8} {f p : Nat} {ns : List ByteArray} (h : overB s c p = false) : lnGo S s c (f + 1) true (false, p, ns) = lnGo S s c f false (S p ns) := by
  rw [lnGo]
  simp [h]
theorem lnGo_next {S : Nat → List ByteArray → Bool × Nat × List ByteArray} {s : ByteArray} {c : UInt8} {f p : Nat} {ns : List ByteArray} (h : overB s c p = false) (e : isAt s p 124 = true) : lnGo S s c (f + 1) false (false, p, ns) = lnGo S s c f false (S (p + 1) ns) := by
  rw [lnGo]
  simp [h, eatS, e]
theorem lnGo_stop {S : Nat → List ByteArray → Bool × Nat × List ByteArray} {s : ByteArray} {c : UInt8} {f p : Nat} {ns : List ByteArray} (h : overB s c p = false) (e : isAt s p 124 = false) : lnGo S s c (f + 1) false (false, p, ns) = (true, p, ns) := by
  rw [lnGo]
  simp [h, eatS, e]

theorem row_type {w : World} {b1 b2 n1 n2 z1 z2 : Nat} {t1 t2 : TypeId} {v1 v2 : Value} {x1 x2 : List Value} (h1 : w.ownsRow b1 t1 z1 v1 n1 x1) (h2 : w.ownsRow b2 t2 z2 v2 n2 x2) (ht : t1 ≠ t2) : v1.ownBlock = none ∨ v1.ownBlock ≠ v2.ownBlock := by
  rcases h1.2 with ⟨rfl, _⟩ | ⟨g1, _, _, rfl, _, e1, _⟩
  · exact Or.inl rfl
  · right
    intro e
    rcases h2.2 with ⟨rfl, _⟩ | ⟨g2, _, _, rfl, _, e2, _⟩
    · cases e
    · simp [Value.ownBlock] at e
      subst e
      rw [e1] at e2
      cases e2
      exact ht rfl
/-- line's own list, while the Reader goes on. -/
theorem row_keeps {w w' : World} {b base n : Nat} {v nv nv' : Value} {xs : List Value} {ns : List ByteArray} (h : w.ownsRow base 116 6 v n xs) (hn : Nm w b nv ns) (hb : b < base) (k : Keeps w w' b nv nv') : w'.ownsRow base 116 6 v n xs := by
  have hne := row_type h hn (by decide)
  refine ⟨h.1, ?_⟩
  rcases h.2 with hz | ⟨g, cap, cur, rfl, hbg, hg, rest⟩
  · exact .inl hz
  · refine .inr ⟨g, cap, cur, rfl, hbg, ?_, rest⟩
    refine k.at hg (by omega) ?_
    rcases hne with e | e
    · cases e
    · exact fun e2 => e e2.symm
/-- What the loop of line holds. -/
structure LnRel (w wr : World) (b : Nat) (s : ByteArray) (c : UInt8) (nv : Value) (p0 : Nat) (S : Nat → List ByteArray → Bool × Nat × List ByteArray) (RES : Bool × Nat × List ByteArray) (t5 : Value) (R : Bool × Nat × List ByteArray) (n f : Nat) (nvi : Value) (xs : List Value) : Prop where
  row : wr.ownsRow w.heap.size 116 6 t5 n xs
  rd : Rd wr b s R.2.1 R.1 nvi
  nm : Nm wr b nvi R.2.2
  kp : Keeps w wr b nv nvi
  le : R.2.1 ≤ s.size
  len : R.2.2.length ≤ R.2.1
  ge : p0 ≤ R.2.1
  fuel : R.1 = false → s.size + 1 - R.2.1 < f ∧ n ≤ R.2.1
  res : lnGo S s c f (n == 0) R = RES

theorem row_form {w : World} {b1 n1 z1 : Nat} {t1 : TypeId} {v1 : Value} {x1 : List Value} (h1 : w.ownsRow b1 t1 z1 v1 n1 x1) : ∃ ao cap, v1 = .slice ao n1 cap := by
  rcases h1.2 with ⟨rfl, e⟩ | ⟨g1, cap, _, rfl, _, e1, _⟩
  · exact ⟨none, 0, by rw [e]⟩
  · exact ⟨_, cap, rfl⟩
theorem Keeps.grow {w w1 x w2 : World} {b : Nat} {nv nv1 : Value} {row : Option Nat} (h : Keeps w w1 b nv nv1) (g : x.grownBy w2 row) (k : w1.grownBy x none) (hr : ∀ j, row = some j → w.heap.size ≤ j) : Keeps w w2 b nv nv1 := by
  refine ⟨g.os.trans (k.os.trans h.os), g.tape.trans (k.tape.trans h.tape), g.output.trans (k.output.trans h.output), Nat.le_trans h.size (Nat.le_trans k.size g.size), fun i hi hb hn => ?_, h.own⟩
  have l1 := Nat.lt_of_lt_of_le hi h.size
  refine (g.block i (Nat.lt_of_lt_of_le l1 k.size) ?_).trans ((k.block i l1 (by simp)).trans (h.block i hi hb hn))
  intro e
  have := hr i e.symm
  omega

set_option maxRecDepth 100000 in
set_option maxHeartbeats 4000000 in
theorem line_step (w : World) (b : Nat) (s : ByteArray) (nv : Value) (c : UInt8) (ci : Int) (hc : ((c.toNat : Nat) : Int) = ci) (R0 : Bool × Nat × List ByteArray) (h : Rd w b s R0.2.1 R0.1 nv) (hn : Nm w b nv R0.2.2) (hp : R0.2.1 ≤ s.size) (hs : s.size ≤ 120) (hnl : R0.2.2.length ≤ R0.2.1)
    (L : UInt8 → Bool × Nat × List ByteArray → Bool × Nat × List ByteArray)
    (hL : ∀ (c : UInt8) (ci : Int) (w' : World) (nv' : Value) (R : Bool × Nat × List ByteArray), ((c.toNat : Nat) : Int) = ci → c ≠ 0 → R0.2.1 < R.2.1 → R.2.1 ≤ s.size → R.2.2.length ≤ R.2.1 → Rd w' b s R.2.1 R.1 nv' → Nm w' b nv' R.2.2 → Calls Tryz.prog 44 #[.pointer (some ⟨b, 0, none⟩), .int .u8 ci] w' fun e w'' => (∃ a n k, e = .returned (.slice a n k)) ∧ RdPost w' b s nv' (L c R) w'')
    (hLn : ∀ (c : UInt8) (R : Bool × Nat × List ByteArray), R.2.1 ≤ s.size → R.2.2.length ≤ R.2.1 → Fits s R (L c R)) :
    Calls Tryz.prog 44 #[.pointer (some ⟨b, 0, none⟩), .int .u8 ci] w fun e w' => (∃ a n k, e = .returned (.slice a n k)) ∧ RdPost w b s nv (lnGo (stS s L) s c (s.size + 2) true R0) w' := by
  generalize hRES : lnGo (stS s L) s c (s.size + 2) true R0 = RES
  have hSL : Hid (∀ (w' : World) (nv' : Value) (p : Nat) (ns : List ByteArray), R0.2.1 ≤ p → p ≤ s.size → ns.length ≤ p → Rd w' b s p false nv' → Nm w' b nv' ns → Calls Tryz.prog 71 #[.pointer (some ⟨b, 0, none⟩)] w' fun e w'' => StgV e ∧ RdPost w' b s nv' (stS s L p ns) w'') := by
    show ∀ (w' : World) (nv' : Value) (p : Nat) (ns : List ByteArray), R0.2.1 ≤ p → p ≤ s.size → ns.length ≤ p → Rd w' b s p false nv' → Nm w' b nv' ns → _
    intro w' nv' p ns e0 e1 e2 e3 e4
    exact stage_any w' b s p nv' ns e3 e4 e1 hs e2 L (fun c ci w1 nv1 R a1 a0 a2 a3 a4 a5 a6 => hL c ci w1 nv1 R a1 a0 (by omega) a3 a4 a5 a6) hLn
  have hSF : Hid (∀ p ns, p ≤ s.size → ns.length ≤ p → Fits s (false, p, ns) (stS s L p ns) ∧ ((stS s L p ns).1 = false → p < (stS s L p ns).2.1)) := fun p ns => stS_fits s L hLn p ns
  generalize stS s L = S at *
  clear hL hLn
  have hR0 : LnRel w w b s c nv R0.2.1 S RES (.slice none 0 0) R0 0 (s.size + 2) nv [] := ⟨World.ownsRow_nil _ _ _ _, h, hn, Keeps.of_grown nv (grown_refl _ _), hp, hnl, Nat.le_refl _, fun _ => ⟨by omega, by omega⟩, hRES⟩
  obtain ⟨i1, hi, hz0, hz1, hz2⟩ := info_parts Tryz.infoRS
  have hbl := h.lt
  go_enter Tryz.func44, Tryz.ntmps44
  go_wp2
  go_loopw [5] (fun t5 wr => ∃ R n f nvi xs, LnRel w wr b s c nv R0.2.1 S RES t5 R n f nvi xs) (fun _ wr => mOf wr b s.size)
  case atStart => exact ⟨R0, 0, s.size + 2, nv, [], hR0⟩
  case round =>
    obtain ⟨R, n, f, nvi, xs, rel⟩ := hrel
    obtain ⟨ao, cap, rfl⟩ := row_form rel.row
    obtain ⟨bad, p, ns⟩ := R
    obtain ⟨row, rd, nm, kp, le, len, ge, fuel, res⟩ := rel
    simp only at rd nm le len ge fuel res
    cases bad with
    | true =>
      have hRR : RES = (true, p, ns) := by rw [← res]; exact lnGo_bad rfl
      obtain ⟨c0, c1, c2, c3, f1, f2, f3⟩ := rd.cells
      clear res hRES hR0
      go_wp2
      go_ret
      exact ⟨⟨_, _, _, rfl⟩, by rw [hRR]; exact ⟨nvi, rd, nm, kp⟩⟩
    | false =>
      have hfu := fuel rfl
      obtain ⟨f', rfl⟩ : ∃ f', f = f' + 1 := ⟨f - 1, by omega⟩
      obtain ⟨c0, c1, c2, c3, f1, f2, f3⟩ := rd.cells
      clear fuel hRES hR0
      by_cases hov : overB s c p = true
      · have hRR : RES = (false, p, ns) := by rw [← res]; exact lnGo_over hov
        clear res
        by_cases hc0 : c = 0
        · subst hc0
          have hci : ci = 0 := by rw [← hc]; rfl
          subst hci
          have hps0 : p = s.size := by simpa [overB] using hov
          have hps : ((p : Int) == (s.size : Int)) = true := by simp [hps0]
          generalize hia : isAt s p 0 = ia
          go_wp2_with fail
          refine (here_any wr b s p false nvi 0 0 rfl ia rd (by simpa using hia)).mono ?_
          rintro e w1 ⟨rfl, n1, rfl⟩
          go_wp2
          go_quiet (fail)
          go_wp2
          go_ret
          exact ⟨⟨_, _, _, rfl⟩, by rw [hRR]; exact ⟨nvi, rd, nm, kp.step (World.grownBy.trans (grown_drewN _ _ _) (grown_drewN _ _ _))⟩⟩
        · have hia : isAt s p c = true := by simpa [overB, hc0] using hov
          have hcb : (ci == 0) = false := by
            have : c.toNat ≠ 0 := fun e => hc0 (UInt8.toNat_inj.mp e)
            rw [← hc]; simp; omega
          go_wp2_with fail
          refine (here_any wr b s p false nvi c ci hc true rd (by simpa using hia)).mono ?_
          rintro e w1 ⟨rfl, n1, rfl⟩
          go_wp2
          go_ret
          exact ⟨⟨_, _, _, rfl⟩, by rw [hRR]; exact ⟨nvi, rd, nm, kp.step (grown_drewN _ _ _)⟩⟩
      · have hov2 : overB s c p = false := by simpa using hov
        by_cases hc0 : c = 0
        · subst hc0
          have hci : ci = 0 := by rw [← hc]; rfl
          subst hci
          have hps0 : ¬ p = s.size := by simpa [overB] using hov
          have hps : ((p : Int) == (s.size : Int)) = false := by simp; omega
          generalize hia : isAt s p 0 = ia
          by_cases hn0 : n = 0
          · subst hn0
            go_wp2_with fail
            refine (here_any wr b s p false nvi 0 0 rfl ia rd (by simpa using hia)).mono ?_
            rintro e w1 ⟨rfl, n1, rfl⟩
            go_wp2
            go_quiet (fail)
            go_wp2_with fail
            refine (hSL.out (World.drewN wr _) nvi p ns ge le len rd nm).mono ?_
            rintro e w10 ⟨⟨nm1, n1v, k1, hw1, a1, l1, cc1, a2, l2, cc2, rfl⟩, nv10, r10, n10, k10⟩
            replace k10 := (Keeps.of_grown _ (grown_drewN wr _ (some b))).trans k10
            have row10 := row_keeps row nm hbl k10
            have kp10 := Keeps.trans kp k10
            have fits := hSF.out p ns le len
            have hres : lnGo S s 0 f' false (S p ns) = RES := by rw [← res]; exact (lnGo_first hov2).symm
            generalize S p ns = R' at *
            have hlb : (Value.slice ao 0 cap).ownBlock ≠ some b := fun e => by have := (World.ownsRow.lt row10 _ e).1; omega
            have hb10 := r10.lt
            have hs10 := kp10.size
            go_wp2_with (at_builtin; go_must (refine wpList_append_lies _ rfl (.tmp 41) (.tmp 43) 50 rfl w.heap.size 116 i1 _ 6 96 Tryz.underlying50 hi hz0 hz1 hz2 rfl (by decide) (.slice ao 0 cap) 0 xs rfl (World.ownsRow.alloc (World.ownsRow.alloc row10 _) _) ⟨w10.heap.size + 1, 0, none⟩ 1 1 [.string nm1, .int .i64 n1v, .int .i64 k1, .string hw1, .slice a1 l1 cc1, .slice a2 l2 cc2] rfl rfl ?c1 ?c2 (by omega) ?c3 ?c4 ?c5 (w10.heap.size + 2) ?c6 ?_))
            case c1 => exact World.news_of_block (heap_alloc2_new _ _ _)
            case c2 => simp [Value.oneCell']
            case c3 => unfold maxLen; omega
            case c4 => omega
            case c5 => simp; omega
            case c6 => simp
            intro g cap' w12 hown12 hgrow12 hat12 hlt12
            have r12 := rd_app r10 hgrow12 ((Below.heap_alloc _ _ _ (by simp; omega)).trans (Below.heap_alloc _ _ _ hb10)) hlb
            have n12 : Nm w12 b nv10 R'.2.2 := World.ownsRow.kept (World.ownsRow.alloc (World.ownsRow.alloc n10 _) _) hgrow12 (row_type n10 row10 (by decide))
            have kp12 := kp10.grow hgrow12 ((grown_alloc _ _ _).trans (grown_alloc _ _ _)) (fun k e => (World.ownsRow.lt row10 _ e).1)
            have hm0 := mOf_ok s.size rd
            have hm12 : mOf w12 b s.size < mOf wr b s.size := by
              rw [hm0]
              cases hb : R'.1 with
              | true => rw [hb] at r12; rw [mOf_bad s.size r12]; omega
              | false => rw [hb] at r12; rw [mOf_ok s.size r12]; have := fits.2 hb; omega
            go_wp2
            exact ⟨⟨R', 0 + 1, f', nv10, _, ⟨hown12, r12, n12, kp12, fits.1.2.1, fits.1.2.2, (by have := fits.1.1; simp only at this; omega), (fun e => by have := fits.2 e; omega), by simpa using hres⟩⟩, hm12⟩
          · have hn0i : (0 : Int) < (n : Int) := by omega
            have hnb : (n == 0) = false := by simpa using hn0
            rw [hnb] at res
            cases he : isAt s p 124 with
            | true =>
              have hps2 := isAt_size he
              go_wp2_with fail
              refine (here_any wr b s p false nvi 0 0 rfl ia rd (by simpa using hia)).mono ?_
              rintro e w1 ⟨rfl, n1, rfl⟩
              go_wp2
              go_quiet (fail)
              go_wp2_with fail
              refine (eat_yes (World.drewN wr _) b s p nvi 124 124 rfl rd he (by omega)).mono ?_
              rintro e w9 ⟨rfl, r9, g9⟩
              have rwr : wr.grownBy w9 (some b) := (grown_drewN _ _ _).trans g9
              have n9 := nm.kept rwr
              have row9 := World.ownsRow.kept row rwr (Or.inr (fun e => by have := (World.ownsRow.lt row _ e).1; omega))
              have kp9 := kp.step rwr
              obtain ⟨e0, e1, e2, e3, g1, g2, g3⟩ := r9.cells
              go_wp2_with fail
              refine (hSL.out w9 nvi (p + 1) ns (by omega) (by omega) (by omega) r9 n9).mono ?_
              rintro e w10 ⟨⟨nm1, n1v, k1, hw1, a1, l1, cc1, a2, l2, cc2, rfl⟩, nv10, r10, n10, k10⟩
              have row10 := row_keeps row9 n9 hbl k10
              have kp10 := Keeps.trans kp9 k10
              have fits := hSF.out (p + 1) ns (by omega) (by omega)
              have hres : lnGo S s 0 f' false (S (p + 1) ns) = RES := by rw [← res]; exact (lnGo_next hov2 he).symm
              generalize S (p + 1) ns = R' at *
              have hlb : (Value.slice ao n cap).ownBlock ≠ some b := fun e => by have := (World.ownsRow.lt row10 _ e).1; omega
              have hb10 := r10.lt
              have hs10 := kp10.size
              go_wp2_with (at_builtin; go_must (refine wpList_append_lies _ rfl (.tmp 41) (.tmp 43) 50 rfl w.heap.size 116 i1 _ 6 96 Tryz.underlying50 hi hz0 hz1 hz2 rfl (by decide) (.slice ao n cap) n xs rfl (World.ownsRow.alloc (World.ownsRow.alloc row10 _) _) ⟨w10.heap.size + 1, 0, none⟩ 1 1 [.string nm1, .int .i64 n1v, .int .i64 k1, .string hw1, .slice a1 l1 cc1, .slice a2 l2 cc2] rfl rfl ?c1 ?c2 (by omega) ?c3 ?c4 ?c5 (w10.heap.size + 2) ?c6 ?_))
              case c1 => exact World.news_of_block (heap_alloc2_new _ _ _)
              case c2 => simp [Value.oneCell']
              case c3 => unfold maxLen; omega
              case c4 => omega
              case c5 => simp; omega
              case c6 => simp
              intro g cap' w12 hown12 hgrow12 hat12 hlt12
              have r12 := rd_app r10 hgrow12 ((Below.heap_alloc _ _ _ (by simp; omega)).trans (Below.heap_alloc _ _ _ hb10)) hlb
              have n12 : Nm w12 b nv10 R'.2.2 := World.ownsRow.kept (World.ownsRow.alloc (World.ownsRow.alloc n10 _) _) hgrow12 (row_type n10 row10 (by decide))
              have kp12 := kp10.grow hgrow12 ((grown_alloc _ _ _).trans (grown_alloc _ _ _)) (fun k e => (World.ownsRow.lt row10 _ e).1)
              have hm0 := mOf_ok s.size rd
              have hm12 : mOf w12 b s.size < mOf wr b s.size := by
                rw [hm0]
                cases hb : R'.1 with
                | true => rw [hb] at r12; rw [mOf_bad s.size r12]; omega
                | false => rw [hb] at r12; rw [mOf_ok s.size r12]; have := fits.2 hb; omega
              go_wp2
              exact ⟨⟨R', n + 1, f', nv10, _, ⟨hown12, r12, n12, kp12, fits.1.2.1, fits.1.2.2, (by have := fits.1.1; simp only at this; omega), (fun e => by have := fits.2 e; omega), by simpa using hres⟩⟩, hm12⟩
            | false =>
              have hRR : RES = (true, p, ns) := by rw [← res]; exact lnGo_stop hov2 he
              go_wp2_with fail
              refine (here_any wr b s p false nvi 0 0 rfl ia rd (by simpa using hia)).mono ?_
              rintro e w1 ⟨rfl, n1, rfl⟩
              go_wp2
              go_quiet (fail)
              go_wp2_with fail
              refine (eat_no (World.drewN wr _) b s p false nvi 124 124 rfl rd (by simpa using he)).mono ?_
              rintro e w9 ⟨rfl, r9, g9⟩
              have rwr : wr.grownBy w9 (some b) := (grown_drewN _ _ _).trans g9
              obtain ⟨e0, e1, e2, e3, g1, g2, g3⟩ := r9.cells
              go_wp2
              go_ret
              exact ⟨⟨_, _, _, rfl⟩, by rw [hRR]; exact ⟨nvi, r9, nm.kept rwr, kp.step rwr⟩⟩
        · have hia : isAt s p c = false := by simpa [overB, hc0] using hov
          have hcb : (ci == 0) = false := by
            have : c.toNat ≠ 0 := fun e => hc0 (UInt8.toNat_inj.mp e)
            rw [← hc]; simp; omega
          by_cases hn0 : n = 0
          · subst hn0
            go_wp2_with fail
            refine (here_any wr b s p false nvi c ci hc false rd (by simpa using hia)).mono ?_
            rintro e w1 ⟨rfl, n1, rfl⟩
            go_wp2_with fail
            refine (hSL.out (World.drewN wr _) nvi p ns ge le len rd nm).mono ?_
            rintro e w10 ⟨⟨nm1, n1v, k1, hw1, a1, l1, cc1, a2, l2, cc2, rfl⟩, nv10, r10, n10, k10⟩
            replace k10 := (Keeps.of_grown _ (grown_drewN wr _ (some b))).trans k10
            have row10 := row_keeps row nm hbl k10
            have kp10 := Keeps.trans kp k10
            have fits := hSF.out p ns le len
            have hres : lnGo S s c f' false (S p ns) = RES := by rw [← res]; exact (lnGo_first hov2).symm
            generalize S p ns = R' at *
            have hlb : (Value.slice ao 0 cap).ownBlock ≠ some b := fun e => by have := (World.ownsRow.lt row10 _ e).1; omega
            have hb10 := r10.lt
            have hs10 := kp10.size
            go_wp2_with (at_builtin; go_must (refine wpList_append_lies _ rfl (.tmp 41) (.tmp 43) 50 rfl w.heap.size 116 i1 _ 6 96 Tryz.underlying50 hi hz0 hz1 hz2 rfl (by decide) (.slice ao 0 cap) 0 xs rfl (World.ownsRow.alloc (World.ownsRow.alloc row10 _) _) ⟨w10.heap.size + 1, 0, none⟩ 1 1 [.string nm1, .int .i64 n1v, .int .i64 k1, .string hw1, .slice a1 l1 cc1, .slice a2 l2 cc2] rfl rfl ?c1 ?c2 (by omega) ?c3 ?c4 ?c5 (w10.heap.size + 2) ?c6 ?_))
            case c1 => exact World.news_of_block (heap_alloc2_new _ _ _)
            case c2 => simp [Value.oneCell']
            case c3 => unfold maxLen; omega
            case c4 => omega
            case c5 => simp; omega
            case c6 => simp
            intro g cap' w12 hown12 hgrow12 hat12 hlt12
            have r12 := rd_app r10 hgrow12 ((Below.heap_alloc _ _ _ (by simp; omega)).trans (Below.heap_alloc _ _ _ hb10)) hlb
            have n12 : Nm w12 b nv10 R'.2.2 := World.ownsRow.kept (World.ownsRow.alloc (World.ownsRow.alloc n10 _) _) hgrow12 (row_type n10 row10 (by decide))
            have kp12 := kp10.grow hgrow12 ((grown_alloc _ _ _).trans (grown_alloc _ _ _)) (fun k e => (World.ownsRow.lt row10 _ e).1)
            have hm0 := mOf_ok s.size rd
            have hm12 : mOf w12 b s.size < mOf wr b s.size := by
              rw [hm0]
              cases hb : R'.1 with
              | true => rw [hb] at r12; rw [mOf_bad s.size r12]; omega
              | false => rw [hb] at r12; rw [mOf_ok s.size r12]; have := fits.2 hb; omega
            go_wp2
            exact ⟨⟨R', 0 + 1, f', nv10, _, ⟨hown12, r12, n12, kp12, fits.1.2.1, fits.1.2.2, (by have := fits.1.1; simp only at this; omega), (fun e => by have := fits.2 e; omega), by simpa using hres⟩⟩, hm12⟩
          · have hn0i : (0 : Int) < (n : Int) := by omega
            have hnb : (n == 0) = false := by simpa using hn0
            rw [hnb] at res
            cases he : isAt s p 124 with
            | true =>
              have hps2 := isAt_size he
              go_wp2_with fail
              refine (here_any wr b s p false nvi c ci hc false rd (by simpa using hia)).mono ?_
              rintro e w1 ⟨rfl, n1, rfl⟩
              go_wp2_with fail
              refine (eat_yes (World.drewN wr _) b s p nvi 124 124 rfl rd he (by omega)).mono ?_
              rintro e w9 ⟨rfl, r9, g9⟩
              have rwr : wr.grownBy w9 (some b) := (grown_drewN _ _ _).trans g9
              have n9 := nm.kept rwr
              have row9 := World.ownsRow.kept row rwr (Or.inr (fun e => by have := (World.ownsRow.lt row _ e).1; omega))
              have kp9 := kp.step rwr
              obtain ⟨e0, e1, e2, e3, g1, g2, g3⟩ := r9.cells
              go_wp2_with fail
              refine (hSL.out w9 nvi (p + 1) ns (by omega) (by omega) (by omega) r9 n9).mono ?_
              rintro e w10 ⟨⟨nm1, n1v, k1, hw1, a1, l1, cc1, a2, l2, cc2, rfl⟩, nv10, r10, n10, k10⟩
              have row10 := row_keeps row9 n9 hbl k10
              have kp10 := Keeps.trans kp9 k10
              have fits := hSF.out (p + 1) ns (by omega) (by omega)
              have hres : lnGo S s c f' false (S (p + 1) ns) = RES := by rw [← res]; exact (lnGo_next hov2 he).symm
              generalize S (p + 1) ns = R' at *
              have hlb : (Value.slice ao n cap).ownBlock ≠ some b := fun e => by have := (World.ownsRow.lt row10 _ e).1; omega
              have hb10 := r10.lt
              have hs10 := kp10.size
              go_wp2_with (at_builtin; go_must (refine wpList_append_lies _ rfl (.tmp 41) (.tmp 43) 50 rfl w.heap.size 116 i1 _ 6 96 Tryz.underlying50 hi hz0 hz1 hz2 rfl (by decide) (.slice ao n cap) n xs rfl (World.ownsRow.alloc (World.ownsRow.alloc row10 _) _) ⟨w10.heap.size + 1, 0, none⟩ 1 1 [.string nm1, .int .i64 n1v, .int .i64 k1, .string hw1, .slice a1 l1 cc1, .slice a2 l2 cc2] rfl rfl ?c1 ?c2 (by omega) ?c3 ?c4 ?c5 (w10.heap.size + 2) ?c6 ?_))
              case c1 => exact World.news_of_block (heap_alloc2_new _ _ _)
              case c2 => simp [Value.oneCell']
              case c3 => unfold maxLen; omega
              case c4 => omega
              case c5 => simp; omega
              case c6 => simp
              intro g cap' w12 hown12 hgrow12 hat12 hlt12
              have r12 := rd_app r10 hgrow12 ((Below.heap_alloc _ _ _ (by simp; omega)).trans (Below.heap_alloc _ _ _ hb10)) hlb
              have n12 : Nm w12 b nv10 R'.2.2 := World.ownsRow.kept (World.ownsRow.alloc (World.ownsRow.alloc n10 _) _) hgrow12 (row_type n10 row10 (by decide))
              have kp12 := kp10.grow hgrow12 ((grown_alloc _ _ _).trans (grown_alloc _ _ _)) (fun k e => (World.ownsRow.lt row10 _ e).1)
              have hm0 := mOf_ok s.size rd
              have hm12 : mOf w12 b s.size < mOf wr b s.size := by
                rw [hm0]
                cases hb : R'.1 with
                | true => rw [hb] at r12; rw [mOf_bad s.size r12]; omega
                | false => rw [hb] at r12; rw [mOf_ok s.size r12]; have := fits.2 hb; omega
              go_wp2
              exact ⟨⟨R', n + 1, f', nv10, _, ⟨hown12, r12, n12, kp12, fits.1.2.1, fits.1.2.2, (by have := fits.1.1; simp only at this; omega), (fun e => by have := fits.2 e; omega), by simpa using hres⟩⟩, hm12⟩
            | false =>
              have hRR : RES = (true, p, ns) := by rw [← res]; exact lnGo_stop hov2 he
              go_wp2_with fail
              refine (here_any wr b s p false nvi c ci hc false rd (by simpa using hia)).mono ?_
              rintro e w1 ⟨rfl, n1, rfl⟩
              go_wp2_with fail
              refine (eat_no (World.drewN wr _) b s p false nvi 124 124 rfl rd (by simpa using he)).mono ?_
              rintro e w9 ⟨rfl, r9, g9⟩
              have rwr : wr.grownBy w9 (some b) := (grown_drewN _ _ _).trans g9
              obtain ⟨e0, e1, e2, e3, g1, g2, g3⟩ := r9.cells
              go_wp2
              go_ret
              exact ⟨⟨_, _, _, rfl⟩, by rw [hRR]; exact ⟨nvi, r9, nm.kept rwr, kp.step rwr⟩⟩
end Go.Proofs.YtdfkjgogdbeokaaGreatDoor
