/-
  DERIVED. The code's reader: withTwo.
-/
import Derived.Test.YtdfkjgogdbeokaaGreatDoorCdPost
import Derived.Test.YtdfkjgogdbeokaaGreatDoorCdNamed
import Derived.Test.YtdfkjgogdbeokaaGreatDoorCdNumA
import Derived.Test.YtdfkjgogdbeokaaGreatDoorCdRow
import Derived.Test.YtdfkjgogdbeokaaGreatDoorCdPl
import Derived.Test.YtdfkjgogdbeokaaGreatDoorCdPat
import Derived.Deep.RegionHeld3
namespace Go.Proofs.YtdfkjgogdbeokaaGreatDoor
open Go.RowKit
set_option linter.unusedVariables false

/-- withTwo, behind the name. -/
def twoC (s : ByteArray) (L : UInt8 → Rs → Rs) (q : Nat) (ns : List ByteArray) (nm : ByteArray) : Rs :=
  if isAt s q 40 = true then
    (if (L 59 (false, q + 1, ns ++ [nm])).1 = true then (true, (L 59 (false, q + 1, ns ++ [nm])).2.1, ns)
     else ((L 41 (false, (L 59 (false, q + 1, ns ++ [nm])).2.1 + 1, (L 59 (false, q + 1, ns ++ [nm])).2.2)).1, clo (L 41 (false, (L 59 (false, q + 1, ns ++ [nm])).2.1 + 1, (L 59 (false, q + 1, ns ++ [nm])).2.2)), (L 41 (false, (L 59 (false, q + 1, ns ++ [nm])).2.1 + 1, (L 59 (false, q + 1, ns ++ [nm])).2.2)).2.2))
  else (true, q, ns)

set_option maxRecDepth 100000 in
set_option maxHeartbeats 4000000 in
theorem withTwo_any (w : World) (b : Nat) (s : ByteArray) (q p0 : Nat) (nm : ByteArray) (ns : List ByteArray) (L : UInt8 → Rs → Rs) (h : Cr w b s q (ns.length + 1)) (hq : q ≤ s.size) (hs : s.size ≤ 120) (h0 : p0 < q) (hn : ns.length + 1 ≤ q) (hG : PatG w) (hbG : b ≠ 8)
    (hL : LineOk b s p0 L) (hLn : ∀ c (R : Rs), R.2.1 ≤ s.size → R.2.2.length ≤ R.2.1 → R.2.1 ≤ (L c R).2.1 ∧ (L c R).2.1 ≤ s.size ∧ (L c R).2.2.length ≤ (L c R).2.1) (hLc : ∀ c (R : Rs), c ≠ 0 → p0 < R.2.1 → R.2.1 ≤ s.size → R.2.2.length ≤ R.2.1 → (L c R).1 = false → isAt s (L c R).2.1 c = true) :
    Calls Tryz.prog 117 #[.pointer (some ⟨b, 0, none⟩), .agg #[.string nm, .int .i64 (ns.length : Nat)]] w fun e w' => StgPost w b s ns (twoC s L q ns nm) e w' := by
  have hbl := h.lt
  generalize hRES : twoC s L q ns nm = RES
  have h1 : Cr (w.alloc (.cells #[.string nm, .int .i64 (ns.length : Nat)] 161)) b s q (ns.length + 1) := h.of_block (Below.heap_alloc _ _ _ hbl)
  have hm1 : (w.alloc (.cells #[.string nm, .int .i64 (ns.length : Nat)] 161)).heap[w.heap.size]? = some (.cells #[.string nm, .int .i64 (ns.length : Nat)] 161 (0, 0)) := heap_alloc_new _ _
  have g1 := grown_alloc w (.cells #[.string nm, .int .i64 (ns.length : Nat)] 161) (some b)
  have hz1 : (w.alloc (.cells #[.string nm, .int .i64 (ns.length : Nat)] 161)).heap.size = w.heap.size + 1 := by simp
  have hG1 := hG.grown g1 (by simpa using hbG)
  go_enter Tryz.func117, Tryz.ntmps117
  go_wp2_with fail
  generalize w.alloc (.cells #[.string nm, .int .i64 (ns.length : Nat)] 161) = w1 at *
  refine (skip_any w1 b s q _ 40 40 rfl h1 hq hs).mono ?_
  rintro e w2 ⟨rfl, c2, g2⟩
  have gg2 := g1.trans g2
  have hm2 : w2.heap[w.heap.size]? = some (.cells #[.string nm, .int .i64 (ns.length : Nat)] 161 (0, 0)) := by rw [g2.block _ (by omega) (by simp; omega)]; exact hm1
  have hz2 := g2.size
  have hG2 := hG1.grown g2 (by simpa using hbG)
  cases hat : isAt s q 40 with
  | false =>
    have hR : RES = (true, q, ns) := by rw [← hRES]; unfold twoC; rw [hat]; rfl
    have hk : skipS s 40 q = q := by unfold skipS; rw [hat]; rfl
    rw [hk] at c2
    subst hR
    go_wp2
    go_ret2
    exact ⟨_, rfl, gg2, _, c2, fun e => (by cases e)⟩
  | true =>
    have hk : skipS s 40 q = q + 1 := by unfold skipS; rw [hat]; rfl
    rw [hk] at c2
    have hq1 : q + 1 ≤ s.size := isAt_size hat
    have hnl : (ns ++ [nm]).length = ns.length + 1 := by simp
    have c2' : Cr w2 b s (q + 1) (ns ++ [nm]).length := by rw [hnl]; exact c2
    have H1 := hL 59 59 w2 (q + 1) (ns ++ [nm]) rfl (by decide) (by omega) hq1 (by omega) hG2 c2'
    have F1 := hLn 59 (false, q + 1, ns ++ [nm]) hq1 (by simp only; omega)
    have C1 := hLc 59 (false, q + 1, ns ++ [nm]) (by decide) (by simp only; omega) hq1 (by simp only; omega)
    have hR0 : RES = (if (L 59 (false, q + 1, ns ++ [nm])).1 = true then (true, (L 59 (false, q + 1, ns ++ [nm])).2.1, ns)
     else ((L 41 (false, (L 59 (false, q + 1, ns ++ [nm])).2.1 + 1, (L 59 (false, q + 1, ns ++ [nm])).2.2)).1, clo (L 41 (false, (L 59 (false, q + 1, ns ++ [nm])).2.1 + 1, (L 59 (false, q + 1, ns ++ [nm])).2.2)), (L 41 (false, (L 59 (false, q + 1, ns ++ [nm])).2.1 + 1, (L 59 (false, q + 1, ns ++ [nm])).2.2)).2.2)) := by rw [← hRES]; unfold twoC; rw [if_pos hat]
    clear hRES
    go_wp2_with fail
    refine H1.mono ?_
    rintro e w3 ⟨v3, rfl, g3, ⟨ao3, n3, cap3, rfl⟩, k3, c3, r3⟩
    generalize L 59 (false, q + 1, ns ++ [nm]) = R1 at *
    obtain ⟨bad1, p1, ns1⟩ := R1
    have gg3 := gg2.trans g3
    have hm3 : w3.heap[w.heap.size]? = some (.cells #[.string nm, .int .i64 (ns.length : Nat)] 161 (0, 0)) := by rw [g3.block _ (by omega) (by simp; omega)]; exact hm2
    have hz3 := g3.size
    have hG3 := hG2.grown g3 (by simpa using hbG)
    simp only at F1 C1
    cases bad1 with
    | true =>
      have hR : RES = (true, p1, ns) := by rw [hR0]; rfl
      have hk : clP 59 (true, p1, ns1) = p1 := rfl
      rw [hk] at c3
      subst hR
      clear hR0 H1
      go_wp2
      go_ret2
      exact ⟨_, rfl, gg3, _, c3, fun e => (by cases e)⟩
    | false =>
      obtain ⟨rfl, r, rr, rb, rl, rn, rd⟩ := r3 rfl
      simp only at rn
      have hk : clP 59 (false, p1, ns1) = p1 + 1 := rfl
      rw [hk] at c3
      have hp1 := isAt_size (C1 rfl)
      have hR : RES = ((L 41 (false, p1 + 1, ns1)).1, clo (L 41 (false, p1 + 1, ns1)), (L 41 (false, p1 + 1, ns1)).2.2) := by rw [hR0]; rfl
      clear hR0 H1
      have H2 := hL 41 41 w3 (p1 + 1) ns1 rfl (by decide) (by omega) hp1 (by omega) hG3 c3
      go_wp2_with fail
      refine H2.mono ?_
      rintro e w4 ⟨v4, rfl, g4, ⟨ao4, n4, cap4, rfl⟩, k4, c4, r4⟩
      generalize L 41 (false, p1 + 1, ns1) = R2 at *
      obtain ⟨bad2, p2, ns2⟩ := R2
      have gg4 := gg3.trans g4
      have hm4 : w4.heap[w.heap.size]? = some (.cells #[.string nm, .int .i64 (ns.length : Nat)] 161 (0, 0)) := by rw [g4.block _ (by omega) (by simp; omega)]; exact hm3
      have k0 : w4.cell? ⟨w.heap.size, 0, none⟩ = some (.string nm) := by simp [World.cell?, hm4]
      have k1 : w4.cell? ⟨w.heap.size, 1, none⟩ = some (.int .i64 (ns.length : Nat)) := by simp [World.cell?, hm4]
      subst hR
      have ck : clP 41 (bad2, p2, ns2) = clo (bad2, p2, ns2) := rfl
      rw [ck] at c4
      clear H2
      go_wp2
      go_ret2
      refine ⟨_, rfl, gg4.trans (grown_alloc _ _ _), k4, c4.of_block (Below.heap_alloc _ _ _ c4.lt), fun e => ?_⟩
      replace e : bad2 = false := e
      subst e
      obtain ⟨hk4, r', rr', rb', rl', rn', rd'⟩ := r4 rfl
      replace rn' : ns2 = ns1 ++ r'.names := rn'
      have hbb : b < w2.heap.size := c2.lt
      have l3 := Row.lies_kept (grown_alloc w4 (.cells #[.string nm, .int .i64 (ns.length : Nat), .slice ao3 n3 cap3, .slice ao4 n4 cap4] 163) none) (fun _ e => by cases e) _ (Row.lies_kept g4 (fun j e => by cases e; omega) _ rl)
      have l4 := Row.lies_kept (grown_alloc w4 (.cells #[.string nm, .int .i64 (ns.length : Nat), .slice ao3 n3 cap3, .slice ao4 n4 cap4] 163) none) (fun _ e => by cases e) _ rl'
      have a3 := rowAt_kept (rowAt_kept rr g4 (Or.inr (fun e => by have := rb _ e; omega))) (grown_alloc w4 (.cells #[.string nm, .int .i64 (ns.length : Nat), .slice ao3 n3 cap3, .slice ao4 n4 cap4] 163) none) (Or.inl rfl)
      have a4 := rowAt_kept rr' (grown_alloc w4 (.cells #[.string nm, .int .i64 (ns.length : Nat), .slice ao3 n3 cap3, .slice ao4 n4 cap4] 163) none) (Or.inl rfl)
      refine ⟨hk4, .two w4.heap.size nm ns.length (.slice ao3 n3 cap3) (.slice ao4 n4 cap4) r r' .nil, rfl, ⟨⟨gg4.size, heap_alloc_new _ _⟩, ⟨a3, fun g e => ?_⟩, ⟨a4, fun g e => ?_⟩, ?_, ?_, trivial⟩, ?_, ?_⟩
      · have := rb g e; omega
      · have := rb' g e; omega
      · exact Row.lies_law (fun j hj _ => by omega) _ l3
      · exact Row.lies_law (fun j hj _ => by omega) _ l4
      · rw [rn', rn]; simp [Row.names, Row.flat]
      · unfold Row.numd at *
        have e1 : (ns ++ [nm]).length = ns.length + 1 := by simp
        have e2 : ns1.length = ns.length + 1 + r.flat.length := by rw [rn]; simp [Row.names]; omega
        rw [e1] at rd
        rw [e2] at rd'
        refine (numd_cons ?_).trans (by simp [Row.flat])
        rw [Row.flat, List.append_nil, List.map_append, rd, rd', List.length_append]
        exact List.range'_append_1
end Go.Proofs.YtdfkjgogdbeokaaGreatDoor
namespace Go.Proofs.YtdfkjgogdbeokaaGreatDoor
open Go.RowKit
set_option linter.unusedVariables false

/-- withInner, behind the name. -/
def parI (s : ByteArray) (L : UInt8 → Rs → Rs) (N : Bool × Nat) (ns : List ByteArray) (nm : ByteArray) : Rs :=
  if N.1 = true then (true, N.2, ns) else if isAt s N.2 40 = true then ((L 41 (false, N.2 + 1, ns ++ [nm])).1, clo (L 41 (false, N.2 + 1, ns ++ [nm])), (L 41 (false, N.2 + 1, ns ++ [nm])).2.2) else (true, N.2, ns)
def parC (s : ByteArray) (L : UInt8 → Rs → Rs) (q : Nat) (ns : List ByteArray) (nm : ByteArray) : Rs :=
  if isAt s q 32 = true then parI s L (numSpec s 1 4 (q + 1)) ns nm else (true, q, ns)

set_option maxRecDepth 100000 in
set_option maxHeartbeats 4000000 in
theorem withInner_any (w : World) (b : Nat) (s : ByteArray) (q p0 : Nat) (nm : ByteArray) (ns : List ByteArray) (fm : Nat) (L : UInt8 → Rs → Rs) (h : Cr w b s q (ns.length + 1)) (hq : q ≤ s.size) (hs : s.size ≤ 120) (h0 : p0 < q) (hn : ns.length + 1 ≤ q) (hG : PatG w) (hbG : b ≠ 8)
    (hL : LineOk b s p0 L) (hnum1 : q + 1 ≤ s.size → q + 1 ≤ (numSpec s 1 4 (q + 1)).2 ∧ (numSpec s 1 4 (q + 1)).2 ≤ s.size) :
    Calls Tryz.prog 118 #[.pointer (some ⟨b, 0, none⟩), .agg #[.string nm, .int .i64 (ns.length : Nat)], .agg #[.string nm, .int .i64 fm, .int .i64 1, .int .i64 4]] w fun e w' => StgPost w b s ns (parC s L q ns nm) e w' := by
  have hbl := h.lt
  generalize hRES : parC s L q ns nm = RES
  have h1 : Cr ((w.alloc (.cells #[.string nm, .int .i64 (ns.length : Nat)] 161)).alloc (.cells #[.string nm, .int .i64 fm, .int .i64 1, .int .i64 4] 212)) b s q (ns.length + 1) := h.of_block ((Below.heap_alloc _ _ _ (by simp; omega)).trans (Below.heap_alloc _ _ _ hbl))
  have hm1 : ((w.alloc (.cells #[.string nm, .int .i64 (ns.length : Nat)] 161)).alloc (.cells #[.string nm, .int .i64 fm, .int .i64 1, .int .i64 4] 212)).heap[w.heap.size]? = some (.cells #[.string nm, .int .i64 (ns.length : Nat)] 161 (0, 0)) := (Below.heap_alloc _ _ _ (by simp)).trans (heap_alloc_new _ _)
  have hp1 : ((w.alloc (.cells #[.string nm, .int .i64 (ns.length : Nat)] 161)).alloc (.cells #[.string nm, .int .i64 fm, .int .i64 1, .int .i64 4] 212)).heap[w.heap.size + 1]? = some (.cells #[.string nm, .int .i64 fm, .int .i64 1, .int .i64 4] 212 (0, 0)) := by
    have := heap_alloc_new (w.alloc (.cells #[.string nm, .int .i64 (ns.length : Nat)] 161)) (.cells #[.string nm, .int .i64 fm, .int .i64 1, .int .i64 4] 212)
    simpa using this
  have g1 := (grown_alloc w (.cells #[.string nm, .int .i64 (ns.length : Nat)] 161) (some b)).trans (grown_alloc _ (.cells #[.string nm, .int .i64 fm, .int .i64 1, .int .i64 4] 212) (some b))
  have hz1 : ((w.alloc (.cells #[.string nm, .int .i64 (ns.length : Nat)] 161)).alloc (.cells #[.string nm, .int .i64 fm, .int .i64 1, .int .i64 4] 212)).heap.size = w.heap.size + 2 := by simp
  have hG1 := hG.grown g1 (by simpa using hbG)
  go_enter Tryz.func118, Tryz.ntmps118
  go_wp2_with fail
  generalize (w.alloc (.cells #[.string nm, .int .i64 (ns.length : Nat)] 161)).alloc (.cells #[.string nm, .int .i64 fm, .int .i64 1, .int .i64 4] 212) = w1 at *
  refine (skip_any w1 b s q _ 32 32 rfl h1 hq hs).mono ?_
  rintro e w2 ⟨rfl, c2, g2⟩
  have gg2 := g1.trans g2
  have hm2 : w2.heap[w.heap.size]? = some (.cells #[.string nm, .int .i64 (ns.length : Nat)] 161 (0, 0)) := by rw [g2.block _ (by omega) (by simp; omega)]; exact hm1
  have hp2 : w2.heap[w.heap.size + 1]? = some (.cells #[.string nm, .int .i64 fm, .int .i64 1, .int .i64 4] 212 (0, 0)) := by rw [g2.block _ (by omega) (by simp; omega)]; exact hp1
  have hz2 := g2.size
  have hG2 := hG1.grown g2 (by simpa using hbG)
  cases hat : isAt s q 32 with
  | false =>
    have hR : RES = (true, q, ns) := by rw [← hRES]; unfold parC; rw [hat]; rfl
    have hk : skipS s 32 q = q := by unfold skipS; rw [hat]; rfl
    rw [hk] at c2
    subst hR
    go_wp2
    go_ret2
    exact ⟨_, rfl, gg2, _, c2, fun e => (by cases e)⟩
  | true =>
    have hk : skipS s 32 q = q + 1 := by unfold skipS; rw [hat]; rfl
    rw [hk] at c2
    have hq1 : q + 1 ≤ s.size := isAt_size hat
    have l0 : w2.cell? ⟨w.heap.size + 1, 2, none⟩ = some (.int .i64 1) := by simp [World.cell?, hp2]
    have l1 : w2.cell? ⟨w.heap.size + 1, 3, none⟩ = some (.int .i64 4) := by simp [World.cell?, hp2]
    have hnum := cnumber_any w2 b s (q + 1) _ 1 4 c2 hs hq1 (by decide) (by decide) (by decide) (Or.inl (by decide))
    have hle := hnum1 hq1
    have hR0 : RES = parI s L (numSpec s 1 4 (q + 1)) ns nm := by rw [← hRES]; unfold parC; rw [if_pos hat]
    clear hRES hnum1
    generalize numSpec s 1 4 (q + 1) = N at *
    obtain ⟨nb, np⟩ := N
    go_wp2_with fail
    refine hnum.mono ?_
    rintro e w3 ⟨⟨v, rfl⟩, c3, g3⟩
    replace c3 : Cr w3 b s np (ns.length + 1) := c3
    have gg3 := gg2.trans g3
    have hm3 : w3.heap[w.heap.size]? = some (.cells #[.string nm, .int .i64 (ns.length : Nat)] 161 (0, 0)) := by rw [g3.block _ (by omega) (by simp; omega)]; exact hm2
    have hz3 := g3.size
    have hG3 := hG2.grown g3 (by simpa using hbG)
    replace hle : q + 1 ≤ np ∧ np ≤ s.size := hle
    clear hnum l0 l1
    cases nb with
    | true =>
      have hR : RES = (true, np, ns) := by rw [hR0]; rfl
      subst hR
      clear hR0
      go_wp2
      go_ret2
      exact ⟨_, rfl, gg3, _, c3, fun e => (by cases e)⟩
    | false =>
      go_wp2_with fail
      refine (skip_any w3 b s np _ 40 40 rfl c3 hle.2 hs).mono ?_
      rintro e w4 ⟨rfl, c4, g4⟩
      have gg4 := gg3.trans g4
      have hm4 : w4.heap[w.heap.size]? = some (.cells #[.string nm, .int .i64 (ns.length : Nat)] 161 (0, 0)) := by rw [g4.block _ (by omega) (by simp; omega)]; exact hm3
      have hz4 := g4.size
      have hG4 := hG3.grown g4 (by simpa using hbG)
      cases hat4 : isAt s np 40 with
      | false =>
        have hR : RES = (true, np, ns) := by rw [hR0]; simp [parI, hat4]
        have hk4 : skipS s 40 np = np := by unfold skipS; rw [hat4]; rfl
        rw [hk4] at c4
        subst hR
        clear hR0
        go_wp2
        go_ret2
        exact ⟨_, rfl, gg4, _, c4, fun e => (by cases e)⟩
      | true =>
        have hk4 : skipS s 40 np = np + 1 := by unfold skipS; rw [hat4]; rfl
        rw [hk4] at c4
        have hR : RES = ((L 41 (false, np + 1, ns ++ [nm])).1, clo (L 41 (false, np + 1, ns ++ [nm])), (L 41 (false, np + 1, ns ++ [nm])).2.2) := by rw [hR0]; simp [parI, hat4]
        have hnp1 : np + 1 ≤ s.size := isAt_size hat4
        have hnl : (ns ++ [nm]).length = ns.length + 1 := by simp
        have c4' : Cr w4 b s (np + 1) (ns ++ [nm]).length := by rw [hnl]; exact c4
        clear hR0
        have H2 := hL 41 41 w4 (np + 1) (ns ++ [nm]) rfl (by decide) (by omega) hnp1 (by omega) hG4 c4'
        go_wp2_with fail
        refine H2.mono ?_
        rintro e w5 ⟨v5, rfl, g5, ⟨ao5, n5, cap5, rfl⟩, k5, c5, r5⟩
        generalize L 41 (false, np + 1, ns ++ [nm]) = R2 at *
        obtain ⟨bad2, p2, ns2⟩ := R2
        have gg5 := gg4.trans g5
        have hm5 : w5.heap[w.heap.size]? = some (.cells #[.string nm, .int .i64 (ns.length : Nat)] 161 (0, 0)) := by rw [g5.block _ (by omega) (by simp; omega)]; exact hm4
        have k0 : w5.cell? ⟨w.heap.size, 0, none⟩ = some (.string nm) := by simp [World.cell?, hm5]
        have k1 : w5.cell? ⟨w.heap.size, 1, none⟩ = some (.int .i64 (ns.length : Nat)) := by simp [World.cell?, hm5]
        subst hR
        have ck : clP 41 (bad2, p2, ns2) = clo (bad2, p2, ns2) := rfl
        rw [ck] at c5
        clear H2
        go_wp2
        go_ret2
        refine ⟨_, rfl, gg5.trans (grown_alloc _ _ _), k5, c5.of_block (Below.heap_alloc _ _ _ c5.lt), fun e => ?_⟩
        replace e : bad2 = false := e
        subst e
        obtain ⟨hk5, r, rr, rb, rl, rn, rd⟩ := r5 rfl
        replace rn : ns2 = (ns ++ [nm]) ++ r.names := rn
        have l3 := Row.lies_kept (grown_alloc w5 (.cells #[.string nm, .int .i64 (ns.length : Nat), .int .i64 v, .slice ao5 n5 cap5] 166) none) (fun _ e => by cases e) _ rl
        have a3 := rowAt_kept rr (grown_alloc w5 (.cells #[.string nm, .int .i64 (ns.length : Nat), .int .i64 v, .slice ao5 n5 cap5] 166) none) (Or.inl rfl)
        refine ⟨hk5, .par w5.heap.size nm ns.length (.slice ao5 n5 cap5) r .nil, rfl, ⟨⟨gg5.size, _, heap_alloc_new _ _⟩, ⟨a3, fun g e => ?_⟩, ?_, trivial⟩, ?_, ?_⟩
        · have := rb g e; omega
        · exact Row.lies_law (fun j hj _ => by omega) _ l3
        · rw [rn]; simp [Row.names, Row.flat]
        · unfold Row.numd at *
          rw [hnl] at rd
          refine (numd_cons ?_).trans (by simp [Row.flat])
          rw [Row.flat, List.append_nil, rd]
end Go.Proofs.YtdfkjgogdbeokaaGreatDoor
namespace Go.Proofs.YtdfkjgogdbeokaaGreatDoor
open Go.RowKit
set_option linter.unusedVariables false

/-- What a stage without brackets leaves: is it none?, and the place. -/
def OnePost (w : World) (b : Nat) (s : ByteArray) (k : Nat) (nm : ByteArray) (i : Nat) (R : Bool × Nat) (e : Ending) (w' : World) : Prop :=
  ∃ v, e = .returned (.tuple #[v, .bool (!R.1)]) ∧ Cr w' b s R.2 k ∧ w.grownBy w' (some b) ∧
    (R.1 = false → ∃ t x tt j, v = stV t j ∧ (t = 217 ∨ t = 237 ∨ t = 217) ∧ w.heap.size ≤ j ∧ w'.heap[j]? = some (.cells #[.string nm, .int .i64 i, x] tt (0, 0)))

/-- withHow: is it none?, and the place. -/
def howS (s : ByteArray) (q : Nat) : Bool × Nat := if isAt s q 32 = true then ((wordS (s.extract (q + 1) s.size) howL 0 0).1.isNone, q + 1 + (wordS (s.extract (q + 1) s.size) howL 0 0).2) else (true, q)

def howO : Obj := .cells #[.string ⟨#[109, 97, 120]⟩, .string ⟨#[109, 105, 110]⟩, .string ⟨#[115, 117, 109]⟩] 9
theorem howO_cell (w : World) (i : Nat) (h : i < howL.length) : (w.alloc howO).cell? ⟨w.heap.size, i, none⟩ = some (.string howL[i]) := by
  have h3 : i < 3 := h
  unfold howO
  rw [World.cell?_alloc_new]
  have : i = 0 ∨ i = 1 ∨ i = 2 := by omega
  rcases this with rfl | rfl | rfl <;> rfl

theorem grown_drew (w : World) (row : Option Nat) : w.grownBy w.drew row := ⟨rfl, rfl, rfl, Nat.le_refl _, fun _ _ _ => rfl⟩

set_option maxRecDepth 100000 in
set_option maxHeartbeats 4000000 in
theorem withHow_any (w : World) (b : Nat) (s : ByteArray) (q k : Nat) (nm : ByteArray) (i : Nat) (h : Cr w b s q k) (hq : q ≤ s.size) (hs : s.size ≤ 120) :
    Calls Tryz.prog 116 #[.pointer (some ⟨b, 0, none⟩), .agg #[.string nm, .int .i64 i]] w fun e w' => OnePost w b s k nm i (howS s q) e w' := by
  have hbl := h.lt
  generalize hRES : howS s q = RES
  go_enter Tryz.func116, Tryz.ntmps116
  go_wp2_with fail
  have h1 : Cr (w.alloc (.cells #[.string nm, .int .i64 i] 161)) b s q k := h.of_block (Below.heap_alloc _ _ _ hbl)
  have hm1 : (w.alloc (.cells #[.string nm, .int .i64 i] 161)).heap[w.heap.size]? = some (.cells #[.string nm, .int .i64 i] 161 (0, 0)) := heap_alloc_new _ _
  have g1 := grown_alloc w (.cells #[.string nm, .int .i64 i] 161) (some b)
  have hz1 : (w.alloc (.cells #[.string nm, .int .i64 i] 161)).heap.size = w.heap.size + 1 := by simp
  generalize w.alloc (.cells #[.string nm, .int .i64 i] 161) = w1 at *
  refine (skip_any w1 b s q k 32 32 rfl h1 hq hs).mono ?_
  rintro e w2 ⟨rfl, c2, g2⟩
  have gg2 := g1.trans g2
  have hm2 : w2.heap[w.heap.size]? = some (.cells #[.string nm, .int .i64 i] 161 (0, 0)) := by rw [g2.block _ (by omega) (by simp; omega)]; exact hm1
  have hz2 := g2.size
  cases hat : isAt s q 32 with
  | false =>
    have hR : RES = (true, q) := by rw [← hRES]; unfold howS; rw [hat]; rfl
    have hk : skipS s 32 q = q := by unfold skipS; rw [hat]; rfl
    rw [hk] at c2
    subst hR
    go_wp2
    go_ret2
    exact ⟨_, rfl, c2, gg2, fun e => (by cases e)⟩
  | true =>
    have hk : skipS s 32 q = q + 1 := by unfold skipS; rw [hat]; rfl
    rw [hk] at c2
    have hq1 : q + 1 ≤ s.size := isAt_size hat
    have hR : RES = ((wordS (s.extract (q + 1) s.size) howL 0 0).1.isNone, q + 1 + (wordS (s.extract (q + 1) s.size) howL 0 0).2) := by rw [← hRES]; unfold howS; rw [if_pos hat]
    clear hRES
    have c3 : Cr (w2.alloc howO) b s (q + 1) k := c2.of_block (Below.heap_alloc _ _ _ c2.lt)
    have g3 := gg2.trans (grown_alloc w2 howO (some b))
    have hm3 : (w2.alloc howO).heap[w.heap.size]? = some (.cells #[.string nm, .int .i64 i] 161 (0, 0)) := by rw [Below.heap_alloc _ _ _ (by omega)]; exact hm2
    have hwd := word_any (w2.alloc howO) b s (q + 1) k c3 hq1 hs w2.heap.size 3 howL (howO_cell w2) (by decide)
    have hlen : howL.length = 3 := rfl
    rw [hlen] at hwd
    have hRL := wordS_lt (s.extract (q + 1) s.size) howL 0 0
    rw [hlen] at hRL
    have hhc := howO_cell w2
    have hbl3 : w2.heap.size < (w2.alloc howO).heap.size := by simp
    have hO : w2.alloc howO = w2.alloc (.cells #[.string ⟨#[109, 97, 120]⟩, .string ⟨#[109, 105, 110]⟩, .string ⟨#[115, 117, 109]⟩] 9) := rfl
    go_wp2_with fail
    rw [← hO]
    generalize w2.alloc howO = w3 at *
    clear hO
    generalize wordS (s.extract (q + 1) s.size) howL 0 0 = WR at *
    obtain ⟨R1, m⟩ := WR
    subst hR
    refine hwd.mono ?_
    rintro e w4 ⟨he, c4, g4⟩
    have hm4 : w4.heap[w.heap.size]? = some (.cells #[.string nm, .int .i64 i] 161 (0, 0)) := by rw [g4.block _ (by omega) (by simp; omega)]; exact hm3
    have gg4 := g3.trans g4
    have k0 : w4.cell? ⟨w.heap.size, 0, none⟩ = some (.string nm) := by simp [World.cell?, hm4]
    have k1 : w4.cell? ⟨w.heap.size, 1, none⟩ = some (.int .i64 i) := by simp [World.cell?, hm4]
    cases R1 with
    | none =>
      simp only at he
      subst he
      go_wp2
      go_ret2
      exact ⟨_, rfl, c4, gg4, fun e => (by cases e)⟩
    | some j =>
      simp only at he
      subst he
      have hj3 : j < 3 := by have := hRL j m rfl; omega
      have hj3i : (j : Int) < 3 := by omega
      have hj4 : j < howL.length := hj3
      have hcj : w4.cell? ⟨w2.heap.size, j, none⟩ = some (.string howL[j]) := by
        rw [World.cell?_of_block (a := ⟨w2.heap.size, j, none⟩) (g4.block w2.heap.size (by omega) (by have := c2.lt; simp; omega))]
        exact hhc j hj4
      generalize howL[j] = hw at *
      go_wp2
      go_region_held3 (fun w' => w'.cell? ⟨w.heap.size, 0, none⟩ = some (.string nm) ∧ w'.cell? ⟨w.heap.size, 1, none⟩ = some (.int .i64 i) ∧ w'.cell? ⟨w2.heap.size, j, none⟩ = some (.string hw)) (go_keep) (fail)
      all_goals go_wp2
      go_ret2
      exact ⟨_, rfl, c4.of_block (Below.heap_alloc _ _ _ c4.lt), (gg4.trans (grown_alloc _ _ _)).trans (grown_drew _ _), fun _ => ⟨_, _, _, _, rfl, Or.inr (Or.inl rfl), gg4.size, heap_alloc_new _ _⟩⟩

/-- withK: is it none?, and the place. -/
def kS (s : ByteArray) (lo hi : Int) (q : Nat) : Bool × Nat := if isAt s q 32 = true then numSpec s lo hi (q + 1) else (true, q)

set_option maxRecDepth 100000 in
set_option maxHeartbeats 4000000 in
theorem withK_any (w : World) (b : Nat) (s : ByteArray) (q k : Nat) (nm : ByteArray) (i : Nat) (fm : Nat) (lo hi : Int) (h : Cr w b s q k) (hq : q ≤ s.size) (hs : s.size ≤ 120) (hbd : lo ≤ 1 ∧ 1 ≤ hi ∧ hi ≤ 999 ∧ (0 ≤ lo ∨ (lo = -hi ∧ 9 ≤ hi))) :
    Calls Tryz.prog 115 #[.pointer (some ⟨b, 0, none⟩), .agg #[.string nm, .int .i64 i], .agg #[.string nm, .int .i64 fm, .int .i64 lo, .int .i64 hi]] w fun e w' => OnePost w b s k nm i (kS s lo hi q) e w' := by
  have hbl := h.lt
  generalize hRES : kS s lo hi q = RES
  go_enter Tryz.func115, Tryz.ntmps115
  have h1 : Cr ((w.alloc (.cells #[.string nm, .int .i64 i] 161)).alloc (.cells #[.string nm, .int .i64 fm, .int .i64 lo, .int .i64 hi] 212)) b s q k := h.of_block ((Below.heap_alloc _ _ _ (by simp; omega)).trans (Below.heap_alloc _ _ _ hbl))
  have hm1 : ((w.alloc (.cells #[.string nm, .int .i64 i] 161)).alloc (.cells #[.string nm, .int .i64 fm, .int .i64 lo, .int .i64 hi] 212)).heap[w.heap.size]? = some (.cells #[.string nm, .int .i64 i] 161 (0, 0)) := (Below.heap_alloc _ _ _ (by simp)).trans (heap_alloc_new _ _)
  have hp1 : ((w.alloc (.cells #[.string nm, .int .i64 i] 161)).alloc (.cells #[.string nm, .int .i64 fm, .int .i64 lo, .int .i64 hi] 212)).heap[w.heap.size + 1]? = some (.cells #[.string nm, .int .i64 fm, .int .i64 lo, .int .i64 hi] 212 (0, 0)) := by
    have := heap_alloc_new (w.alloc (.cells #[.string nm, .int .i64 i] 161)) (.cells #[.string nm, .int .i64 fm, .int .i64 lo, .int .i64 hi] 212)
    simpa using this
  have g1 := (grown_alloc w (.cells #[.string nm, .int .i64 i] 161) (some b)).trans (grown_alloc _ (.cells #[.string nm, .int .i64 fm, .int .i64 lo, .int .i64 hi] 212) (some b))
  have hz1 : ((w.alloc (.cells #[.string nm, .int .i64 i] 161)).alloc (.cells #[.string nm, .int .i64 fm, .int .i64 lo, .int .i64 hi] 212)).heap.size = w.heap.size + 2 := by simp
  go_wp2_with fail
  generalize (w.alloc (.cells #[.string nm, .int .i64 i] 161)).alloc (.cells #[.string nm, .int .i64 fm, .int .i64 lo, .int .i64 hi] 212) = w1 at *
  refine (skip_any w1 b s q k 32 32 rfl h1 hq hs).mono ?_
  rintro e w2 ⟨rfl, c2, g2⟩
  have gg2 := g1.trans g2
  have hm2 : w2.heap[w.heap.size]? = some (.cells #[.string nm, .int .i64 i] 161 (0, 0)) := by rw [g2.block _ (by omega) (by simp; omega)]; exact hm1
  have hp2 : w2.heap[w.heap.size + 1]? = some (.cells #[.string nm, .int .i64 fm, .int .i64 lo, .int .i64 hi] 212 (0, 0)) := by rw [g2.block _ (by omega) (by simp; omega)]; exact hp1
  have hz2 := g2.size
  cases hat : isAt s q 32 with
  | false =>
    have hR : RES = (true, q) := by rw [← hRES]; unfold kS; rw [hat]; rfl
    have hk : skipS s 32 q = q := by unfold skipS; rw [hat]; rfl
    rw [hk] at c2
    subst hR
    go_wp2
    go_ret2
    exact ⟨_, rfl, c2, gg2, fun e => (by cases e)⟩
  | true =>
    have hk : skipS s 32 q = q + 1 := by unfold skipS; rw [hat]; rfl
    rw [hk] at c2
    have hq1 : q + 1 ≤ s.size := isAt_size hat
    have hR : RES = numSpec s lo hi (q + 1) := by rw [← hRES]; unfold kS; rw [if_pos hat]
    clear hRES
    have l0 : w2.cell? ⟨w.heap.size + 1, 2, none⟩ = some (.int .i64 lo) := by simp [World.cell?, hp2]
    have l1 : w2.cell? ⟨w.heap.size + 1, 3, none⟩ = some (.int .i64 hi) := by simp [World.cell?, hp2]
    have hnum := cnumber_any w2 b s (q + 1) k lo hi c2 hs hq1 hbd.1 hbd.2.1 hbd.2.2.1 hbd.2.2.2
    rw [← hR] at hnum
    obtain ⟨bad, m⟩ := RES
    clear hR
    go_wp2_with fail
    refine hnum.mono ?_
    rintro e w4 ⟨⟨v, rfl⟩, c4, g4⟩
    have hm4 : w4.heap[w.heap.size]? = some (.cells #[.string nm, .int .i64 i] 161 (0, 0)) := by rw [g4.block _ (by omega) (by simp; omega)]; exact hm2
    have gg4 := gg2.trans g4
    have k0 : w4.cell? ⟨w.heap.size, 0, none⟩ = some (.string nm) := by simp [World.cell?, hm4]
    have k1 : w4.cell? ⟨w.heap.size, 1, none⟩ = some (.int .i64 i) := by simp [World.cell?, hm4]
    go_wp2
    go_ret2
    exact ⟨_, rfl, c4.of_block (Below.heap_alloc _ _ _ c4.lt), gg4.trans (grown_alloc _ _ _), fun _ => ⟨_, _, _, _, rfl, Or.inl rfl, gg4.size, heap_alloc_new _ _⟩⟩
end Go.Proofs.YtdfkjgogdbeokaaGreatDoor
namespace Go.Proofs.YtdfkjgogdbeokaaGreatDoor
open Go.RowKit
set_option linter.unusedVariables false

/-- The same: where it is none the names don't matter. -/
def Agr (R R' : Rs) : Prop := R.1 = R'.1 ∧ R.2.1 = R'.2.1 ∧ (R.1 = false → R.2.2 = R'.2.2)
theorem Agr.refl (R : Rs) : Agr R R := ⟨rfl, rfl, fun _ => rfl⟩
theorem Agr.of_eq {R R' : Rs} (h : R = R') : Agr R R' := h ▸ Agr.refl R
theorem stg_same {w0 w w' : World} {b : Nat} {s : ByteArray} {ns : List ByteArray} {R R' : Rs} {e : Ending} (h : StgPost w b s ns R e w') (a : Agr R R') (g : w0.grownBy w (some b)) : StgPost w0 b s ns R' e w' := by
  obtain ⟨v, he, hg, k, hc, hr⟩ := h
  obtain ⟨a1, a2, a3⟩ := a
  refine ⟨v, by rw [← a1]; exact he, g.trans hg, k, by rw [← a2]; exact hc, fun hb => ?_⟩
  rw [← a1] at hb
  obtain ⟨hk, r, h1, h2, h3, h4⟩ := hr hb
  rw [← a3 hb]
  exact ⟨hk, r, h1, Row.lies_law (fun j hj _ => Nat.le_trans g.size hj) _ h2, h3, h4⟩
theorem one_post {w0 w w' : World} {b : Nat} {s : ByteArray} {ns : List ByteArray} {nm : ByteArray} {Q : Bool × Nat} {R' : Rs} {e : Ending} (h : OnePost w b s (ns.length + 1) nm ns.length Q e w') (a : Agr (Q.1, Q.2, ns ++ [nm]) R') (g : w0.grownBy w (some b)) : StgPost w0 b s ns R' e w' := by
  refine stg_same (R := (Q.1, Q.2, ns ++ [nm])) ?_ a g
  obtain ⟨v, he, hc, hg, hr⟩ := h
  refine ⟨v, he, hg, _, hc, fun hb => ?_⟩
  obtain ⟨t, x, tt, j, rfl, ht, hj, hx⟩ := hr hb
  obtain ⟨r, r1, r2, r3, r4⟩ := one_stg ht hj hx
  exact ⟨by simp, r, r1, r2, by rw [r3], r4⟩
theorem agr_k {s : ByteArray} {q : Nat} {ns : List ByteArray} {nm : ByteArray} {lo hi : Int} {R : Rs} (h1 : isAt s q 32 = true → R = ((numSpec s lo hi (q + 1)).1, (numSpec s lo hi (q + 1)).2, ns ++ [nm])) (h2 : isAt s q 32 = false → R = (true, q, ns)) : Agr ((kS s lo hi q).1, (kS s lo hi q).2, ns ++ [nm]) R := by
  unfold kS
  cases hat : isAt s q 32 with
  | true => rw [h1 hat, if_pos rfl]; exact Agr.refl _
  | false => rw [h2 hat, if_neg (by simp)]; exact ⟨rfl, rfl, fun e => by cases e⟩
theorem agr_how {s : ByteArray} {q : Nat} {ns : List ByteArray} {nm : ByteArray} {R : Rs} (h1 : isAt s q 32 = true → ∀ Q, wordS (s.extract (q + 1) s.size) howL 0 0 = Q → R = (Q.1.isNone, q + 1 + Q.2, if Q.1.isNone = true then ns else ns ++ [nm])) (h2 : isAt s q 32 = false → R = (true, q, ns)) : Agr ((howS s q).1, (howS s q).2, ns ++ [nm]) R := by
  unfold howS
  cases hat : isAt s q 32 with
  | true =>
    rw [h1 hat _ rfl, if_pos rfl]
    refine ⟨rfl, rfl, fun e => ?_⟩
    simp only at e ⊢
    rw [e]
    rfl
  | false => rw [h2 hat, if_neg (by simp)]; exact ⟨rfl, rfl, fun e => by cases e⟩
theorem agr_two {s : ByteArray} {p0 : Nat} {L : UInt8 → Rs → Rs} (g : LGood s p0 L) {q : Nat} {ns : List ByteArray} {nm : ByteArray} {R : Rs} (h0 : p0 < q + 1) (hn : ns.length + 1 ≤ q) (h1 : isAt s q 40 = true → R = bothS s L (false, q + 1, ns ++ [nm])) (h2 : isAt s q 40 = false → R = (true, q, ns)) : Agr (twoC s L q ns nm) R := by
  unfold twoC
  cases hat : isAt s q 40 with
  | true =>
    have k := both_code g (q := q + 1) (ns := ns ++ [nm]) h0 (isAt_size hat) (by simp; omega)
    rw [h1 hat, if_pos rfl]
    cases hb : (L 59 (false, q + 1, ns ++ [nm])).1 with
    | true => rw [k.1 hb, if_pos rfl]; exact ⟨rfl, rfl, fun e => by cases e⟩
    | false => rw [k.2 hb, if_neg (by simp)]; exact Agr.refl _
  | false => rw [h2 hat, if_neg (by simp)]; exact ⟨rfl, rfl, fun e => by cases e⟩
theorem agr_par {s : ByteArray} {p0 : Nat} {L : UInt8 → Rs → Rs} (g : LGood s p0 L) {q : Nat} {ns : List ByteArray} {nm : ByteArray} {R : Rs} (h0 : p0 < q + 1) (hn : ns.length + 1 ≤ q) (h1 : isAt s q 32 = true → R = parS s L ((numSpec s 1 4 (q + 1)).1, (numSpec s 1 4 (q + 1)).2, ns ++ [nm])) (h2 : isAt s q 32 = false → R = (true, q, ns)) : Agr (parC s L q ns nm) R := by
  unfold parC
  cases hat : isAt s q 32 with
  | true =>
    have hle := numSpec_le s 1 4 (q + 1) (isAt_size hat)
    rw [h1 hat, if_pos rfl]
    generalize numSpec s 1 4 (q + 1) = N at *
    obtain ⟨nb, np⟩ := N
    simp only at hle ⊢
    unfold parI
    cases nb with
    | true => rw [par_bad g, if_pos rfl]; exact ⟨rfl, rfl, fun e => by cases e⟩
    | false =>
      rw [if_neg (by simp)]
      cases hat2 : isAt s np 40 with
      | true => rw [if_pos rfl, par_code g hat2 (by omega) (by simp; omega)]; exact Agr.refl _
      | false => rw [if_neg (by simp), par_off g hat2]; exact ⟨rfl, rfl, fun e => by cases e⟩
  | false => rw [h2 hat, if_neg (by simp)]; exact ⟨rfl, rfl, fun e => by cases e⟩
end Go.Proofs.YtdfkjgogdbeokaaGreatDoor
namespace Go.Proofs.YtdfkjgogdbeokaaGreatDoor
open Go.RowKit
set_option linter.unusedVariables false

set_option maxRecDepth 100000 in
set_option maxHeartbeats 4000000 in
theorem cstage_any (w : World) (b : Nat) (s : ByteArray) (p : Nat) (ns : List ByteArray) (L : UInt8 → Rs → Rs) (h : Cr w b s p ns.length) (hp : p ≤ s.size) (hs : s.size ≤ 120) (hn : ns.length ≤ p) (hG : PatG w) (hbG : b ≠ 8)
    (hL : LineOk b s p L) (g : LGood s p L) :
    Calls Tryz.prog 93 #[.pointer (some ⟨b, 0, none⟩)] w fun e w' => StgPost w b s ns (stS s L p ns) e w' := by
  have hbl := h.lt
  have hnone := stS_none s L p ns
  have hsome := stS_some s L p ns
  generalize hRES : stS s L p ns = RES at *
  have hnm := named_any w b s p ns.length h hp hs hG hbG
  generalize hW : wordS (s.extract p s.size) nmL 0 0 = W at *
  obtain ⟨W1, m⟩ := W
  go_enter Tryz.func93, Tryz.ntmps93
  go_wp2_with fail
  refine hnm.mono ?_
  rintro e w1 ⟨he, c1, g1⟩
  cases W1 with
  | none =>
    replace he : e = .returned (.tuple #[.agg #[.string ⟨#[]⟩, .int .i64 0, .int .i64 0, .int .i64 0], .bool false]) := he
    subst he
    have hR := (hnone m hp rfl).1
    subst hR
    clear hnone hsome hnm hRES
    replace c1 : Cr w1 b s (p + m) ns.length := c1
    go_wp2
    go_ret2
    exact ⟨_, rfl, g1.trans (grown_alloc _ _ _), _, c1.of_block (Below.heap_alloc _ _ _ c1.lt), fun e => (by cases e)⟩
  | some i =>
    obtain ⟨hi, he⟩ := he
    subst he
    obtain ⟨_, hm, hm0, hpm, hPS⟩ := hsome m i hp rfl
    clear hnone hsome hnm
    unfold PatS at hPS
    rw [hRES] at hPS
    clear hRES
    unfold patV
    have hPm : patL[i] ∈ patL := List.getElem_mem hi
    generalize patL[i] = P at *
    obtain ⟨nm, fm, lo, hi9⟩ := P
    simp only at hPS hm
    replace c1 : Cr w1 b s (p + m) ns.length := c1
    have hb1 := c1.lt
    have c2 : Cr (w1.alloc (.cells #[.string nm, .int .i64 fm, .int .i64 lo, .int .i64 hi9] 212)) b s (p + m) ns.length := c1.of_block (Below.heap_alloc _ _ _ hb1)
    have hr2 : (w1.alloc (.cells #[.string nm, .int .i64 fm, .int .i64 lo, .int .i64 hi9] 212)).heap[w1.heap.size]? = some (.cells #[.string nm, .int .i64 fm, .int .i64 lo, .int .i64 hi9] 212 (0, 0)) := heap_alloc_new _ _
    have g2 := g1.trans (grown_alloc w1 (.cells #[.string nm, .int .i64 fm, .int .i64 lo, .int .i64 hi9] 212) (some b))
    go_wp2
    generalize w1.alloc (.cells #[.string nm, .int .i64 fm, .int .i64 lo, .int .i64 hi9] 212) = w2 at *
    have k0 : w2.cell? ⟨w1.heap.size, 0, none⟩ = some (.string nm) := by simp [World.cell?, hr2]
    obtain ⟨d0, d1, d2, f1, f2⟩ := c2.cells
    have n1 := World.new_ne w2 ⟨w1.heap.size, 0, none⟩ k0
    have n2 := World.new_ne w2 ⟨b, 2, none⟩ d2
    go_region_held3 (fun w' => w'.cell? ⟨w1.heap.size, 0, none⟩ = some (.string nm) ∧ w'.cell? ⟨b, 2, none⟩ = some (.int .i64 (ns.length : Nat))) (go_keep) (fail)
    have c3 : Cr (w2.alloc (.cells #[.string nm, .int .i64 (ns.length : Nat)] 161)).drew b s (p + m) ns.length := c2.of_block (Below.heap_alloc _ _ _ c2.lt)
    have hr3 : (w2.alloc (.cells #[.string nm, .int .i64 (ns.length : Nat)] 161)).drew.heap[w1.heap.size]? = some (.cells #[.string nm, .int .i64 fm, .int .i64 lo, .int .i64 hi9] 212 (0, 0)) := (Below.heap_alloc _ _ _ (lt_of_some hr2)).trans hr2
    have hk3 : (w2.alloc (.cells #[.string nm, .int .i64 (ns.length : Nat)] 161)).drew.heap[w2.heap.size]? = some (.cells #[.string nm, .int .i64 (ns.length : Nat)] 161 (0, 0)) := heap_alloc_new _ _
    have g3 : w.grownBy (w2.alloc (.cells #[.string nm, .int .i64 (ns.length : Nat)] 161)).drew (some b) := (g2.trans (grown_alloc _ _ _)).trans (grown_drew _ _)
    have hl12 := lt_of_some hr2
    have hb2 := c2.lt
    generalize (w2.alloc (.cells #[.string nm, .int .i64 (ns.length : Nat)] 161)).drew = w3 at *
    clear k0 d0 d1 d2 f1 f2 n1 n2
    have c4 : Cr (w3.setCell ⟨b, 2, none⟩ (.int .i64 ((ns.length : Int) + 1))) b s (p + m) (ns.length + 1) := c3.setK (ns.length + 1)
    have hr4 : (w3.setCell ⟨b, 2, none⟩ (.int .i64 ((ns.length : Int) + 1))).heap[w1.heap.size]? = some (.cells #[.string nm, .int .i64 fm, .int .i64 lo, .int .i64 hi9] 212 (0, 0)) := (Below.heap_setCell _ _ _ _ (by simp; omega)).trans hr3
    have hk4 : (w3.setCell ⟨b, 2, none⟩ (.int .i64 ((ns.length : Int) + 1))).heap[w2.heap.size]? = some (.cells #[.string nm, .int .i64 (ns.length : Nat)] 161 (0, 0)) := (Below.heap_setCell _ _ _ _ (by simp; omega)).trans hk3
    have g4 : w.grownBy (w3.setCell ⟨b, 2, none⟩ (.int .i64 ((ns.length : Int) + 1))) (some b) := g3.trans (grown_set _ _ _ _)
    have hG4 : PatG (w3.setCell ⟨b, 2, none⟩ (.int .i64 ((ns.length : Int) + 1))) := hG.grown g4 (by simpa using hbG)
    obtain ⟨d0, d1, d2, f1, f2⟩ := c3.cells
    have hnl : (ns.length : Int) ≤ 120 := by omega
    have hnl2 : ns.length + 1 ≤ p + m := by omega
    generalize hW4 : w3.setCell ⟨b, 2, none⟩ (.int .i64 ((ns.length : Int) + 1)) = w4 at *
    have p0 : w4.cell? ⟨w1.heap.size, 0, none⟩ = some (.string nm) := by simp [World.cell?, hr4]
    have p1 : w4.cell? ⟨w1.heap.size, 1, none⟩ = some (.int .i64 fm) := by simp [World.cell?, hr4]
    have p2 : w4.cell? ⟨w1.heap.size, 2, none⟩ = some (.int .i64 lo) := by simp [World.cell?, hr4]
    have p3 : w4.cell? ⟨w1.heap.size, 3, none⟩ = some (.int .i64 hi9) := by simp [World.cell?, hr4]
    have q0 : w4.cell? ⟨w2.heap.size, 0, none⟩ = some (.string nm) := by simp [World.cell?, hk4]
    have q1 : w4.cell? ⟨w2.heap.size, 1, none⟩ = some (.int .i64 (ns.length : Nat)) := by simp [World.cell?, hk4]
    clear c2 c3 hr2 hr3 hk3 g2 g3 hb2
    rcases hPS with ⟨rfl, hR⟩ | ⟨rfl, hbd, hR1, hR2⟩ | ⟨rfl, hR1, hR2⟩ | ⟨rfl, hR1, hR2⟩ | ⟨rfl, rfl, rfl, hR1, hR2⟩
    · go_wp2
      go_ret2
      subst hR
      refine ⟨_, rfl, g4.trans (grown_alloc _ _ _), _, c4.of_block (Below.heap_alloc _ _ _ c4.lt), fun _ => ⟨by simp, ?_⟩⟩
      obtain ⟨r, r1, r2, r3, r4⟩ := one_stg (w := w) (t := 217) (j := w4.heap.size) (Or.inl rfl) g4.size (heap_alloc_new w4 (.cells #[.string nm, .int .i64 (ns.length : Nat), .int .i64 0] 219))
      exact ⟨r, r1, r2, by rw [r3], r4⟩
    · go_wp2_with fail
      refine (withK_any w4 b s (p + m) _ nm ns.length 1 lo hi9 c4 hpm hs hbd).mono ?_
      intro e w5 h5
      have h6 := one_post h5 (agr_k hR1 hR2) g4
      obtain ⟨v, rfl, hx⟩ := h6
      go_wp2
      go_ret2
      exact ⟨v, rfl, hx⟩
    · go_wp2_with fail
      refine (withHow_any w4 b s (p + m) _ nm ns.length c4 hpm hs).mono ?_
      intro e w5 h5
      have h6 := one_post h5 (agr_how hR1 hR2) g4
      obtain ⟨v, rfl, hx⟩ := h6
      go_wp2
      go_ret2
      exact ⟨v, rfl, hx⟩
    · go_wp2_with fail
      refine (withTwo_any w4 b s (p + m) p nm ns L c4 hpm hs (by omega) hnl2 hG4 hbG hL g.fits g.clos).mono ?_
      intro e w5 h5
      have h6 := stg_same h5 (agr_two g (by omega) hnl2 hR1 hR2) g4
      obtain ⟨v, rfl, hx⟩ := h6
      go_wp2
      go_ret2
      exact ⟨v, rfl, hx⟩
    · go_wp2_with fail
      refine (withInner_any w4 b s (p + m) p nm ns 4 L c4 hpm hs (by omega) hnl2 hG4 hbG hL (fun h => numSpec_le s 1 4 _ h)).mono ?_
      intro e w5 h5
      have h6 := stg_same h5 (agr_par g (by omega) hnl2 hR1 hR2) g4
      obtain ⟨v, rfl, hx⟩ := h6
      go_wp2
      go_ret2
      exact ⟨v, rfl, hx⟩
end Go.Proofs.YtdfkjgogdbeokaaGreatDoor
