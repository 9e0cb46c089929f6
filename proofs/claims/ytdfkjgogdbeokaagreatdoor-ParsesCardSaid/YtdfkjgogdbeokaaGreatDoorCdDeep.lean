/-
  DERIVED. The code's reader: line, one stage behind the other.
-/
import Derived.Test.YtdfkjgogdbeokaaGreatDoorCdPost
import Derived.Test.YtdfkjgogdbeokaaGreatDoorCdNamed
import Derived.Test.YtdfkjgogdbeokaaGreatDoorCdNumA
import Derived.Test.YtdfkjgogdbeokaaGreatDoorCdStg
namespace Go.Proofs.YtdfkjgogdbeokaaGreatDoor
open Go.RowKit
set_option linter.unusedVariables false

/-- line, where a stage is to be read. -/
def cdGo (S : Nat → List ByteArray → Rs) (s : ByteArray) (c : UInt8) : Nat → Nat → List ByteArray → Rs
  | 0, p, ns => (true, p, ns)
  | f + 1, p, ns => if (S p ns).1 = true then S p ns else if closB s c (S p ns).2.1 = true then S p ns else if isAt s (S p ns).2.1 124 = true then cdGo S s c f ((S p ns).2.1 + 1) (S p ns).2.2 else (true, (S p ns).2.1, (S p ns).2.2)
def cdLine (S : Nat → List ByteArray → Rs) (s : ByteArray) (c : UInt8) (p : Nat) (ns : List ByteArray) : Rs :=
  if closB s c p = true then (false, p, ns) else cdGo S s c (s.size + 1) p ns

theorem cdGo_bad {S : Nat → List ByteArray → Rs} {s : ByteArray} {c : UInt8} {f p : Nat} {ns : List ByteArray} (h : (S p ns).1 = true) : cdGo S s c (f + 1) p ns = S p ns := by rw [cdGo, if_pos h]
theorem cdGo_over {S : Nat → List ByteArray → Rs} {s : ByteArray} {c : UInt8} {f p : Nat} {ns : List ByteArray} (h : ¬ (S p ns).1 = true) (k : closB s c (S p ns).2.1 = true) : cdGo S s c (f + 1) p ns = S p ns := by rw [cdGo, if_neg h, if_pos k]
theorem cdGo_next {S : Nat → List ByteArray → Rs} {s : ByteArray} {c : UInt8} {f p : Nat} {ns : List ByteArray} (h : ¬ (S p ns).1 = true) (k : ¬ closB s c (S p ns).2.1 = true) (l : isAt s (S p ns).2.1 124 = true) : cdGo S s c (f + 1) p ns = cdGo S s c f ((S p ns).2.1 + 1) (S p ns).2.2 := by rw [cdGo, if_neg h, if_neg k, if_pos l]
theorem cdGo_stop {S : Nat → List ByteArray → Rs} {s : ByteArray} {c : UInt8} {f p : Nat} {ns : List ByteArray} (h : ¬ (S p ns).1 = true) (k : ¬ closB s c (S p ns).2.1 = true) (l : ¬ isAt s (S p ns).2.1 124 = true) : cdGo S s c (f + 1) p ns = (true, (S p ns).2.1, (S p ns).2.2) := by rw [cdGo, if_neg h, if_neg k, if_neg l]

/-- How far the loop still has to go. -/
def cOf (w : World) (b n : Nat) : Nat := match w.cell? ⟨b, 1, none⟩ with | some (.int _ p) => n + 1 - p.toNat | _ => 0
theorem cOf_cr {w : World} {b : Nat} {s : ByteArray} {p k : Nat} (n : Nat) (h : Cr w b s p k) : cOf w b n = n + 1 - p := by
  unfold cOf
  rw [h.cells.2.1]
  simp
/-- What the loop of line holds. -/
structure ClRel (w wr : World) (b : Nat) (s : ByteArray) (c : UInt8) (p0 : Nat) (ns0 : List ByteArray) (S : Nat → List ByteArray → Rs) (RES : Rs) (t : Value) (p : Nat) (ns : List ByteArray) (f : Nat) (r : Row) : Prop where
  row : wr.ownsRow w.heap.size 94 1 t r.vals.length r.vals
  lies : r.lies wr (fun j => w.heap.size ≤ j ∧ t.ownBlock ≠ some j)
  cr : Cr wr b s p ns.length
  gr : w.grownBy wr (some b)
  le : p ≤ s.size
  len : ns.length ≤ p
  ge : p0 ≤ p
  num : r.vals.length ≤ p
  nms : ns = ns0 ++ r.names
  nmd : r.numd ns0.length
  fuel : s.size < p + f
  res : cdGo S s c f p ns = RES
theorem closed_place {s : ByteArray} {c : UInt8} {p : Nat} {ns : List ByteArray} (hcl : closB s c p = true) : closP s c p = clP c (false, p, ns) := by
  unfold closP clP clo
  split
  · rfl
  · rename_i h0
    unfold closB at hcl
    rw [if_neg h0] at hcl
    unfold skipS
    rw [if_pos hcl]
    rfl
theorem open_place {s : ByteArray} {c : UInt8} {p : Nat} (hcl : closB s c p = false) : closP s c p = p := by
  unfold closP
  split
  · rfl
  · rename_i h0
    unfold closB at hcl
    rw [if_neg h0] at hcl
    unfold skipS
    rw [hcl]
    rfl
theorem rowBase {w : World} {base : Nat} {e : TypeId} {size : Nat} {v : Value} {n : Nat} {xs : List Value} (h : w.ownsRow base e size v n xs) : w.ownsRow 0 e size v n xs := by
  refine ⟨h.1, ?_⟩
  rcases h.2 with h | ⟨g, cap, cur, h1, _, h3⟩
  · exact Or.inl h
  · exact Or.inr ⟨g, cap, cur, h1, Nat.zero_le _, h3⟩
theorem vals_one {x : Row} {v : Value} (h : x.vals = [v]) : ∃ t j, v = .iface t (.pointer (some ⟨j, 0, none⟩)) := by
  cases x with
  | nil => cases h
  | one t k nm i r => exact ⟨t, k, by simp only [Row.vals, List.cons.injEq] at h; exact h.1.symm⟩
  | two k nm i v1 v2 a b r => exact ⟨_, k, by simp only [Row.vals, List.cons.injEq] at h; exact h.1.symm⟩
  | par k nm i v1 a r => exact ⟨_, k, by simp only [Row.vals, List.cons.injEq] at h; exact h.1.symm⟩
/-- Behind the append of a stage. -/
theorem ln_app {w wr w2 w3 : World} {b g cap cap' : Nat} {ao : Option Addr} {r x : Row} {v : Value} {O : Obj} (row : wr.ownsRow w.heap.size 94 1 (.slice ao r.vals.length cap) r.vals.length r.vals)
    (lies : r.lies wr (fun j => w.heap.size ≤ j ∧ (Value.slice ao r.vals.length cap).ownBlock ≠ some j)) (gr : w.grownBy wr (some b)) (hb : b < w.heap.size) (g2 : wr.grownBy w2 (some b)) (xl : x.lies w2 (fun j => wr.heap.size ≤ j))
    (hown3 : w3.ownsRow w.heap.size 94 1 (.slice (some ⟨g, 0, none⟩) (r.vals.length + 1) cap') (r.vals.length + 1) (r.vals ++ [v])) (xv : x.vals = [v])
    (hgrow3 : (w2.alloc O).grownBy w3 (Value.slice ao r.vals.length cap).ownBlock) (hat3 : (Value.slice ao r.vals.length cap).ownBlock = some g ∨ g = w2.heap.size + 1) :
    w3.ownsRow w.heap.size 94 1 (.slice (some ⟨g, 0, none⟩) (r.vals.length + 1) cap') (r.app x).vals.length (r.app x).vals ∧
    (r.app x).lies w3 (fun j => w.heap.size ≤ j ∧ (Value.slice (some ⟨g, 0, none⟩) (r.vals.length + 1) cap').ownBlock ≠ some j) ∧ w.grownBy w3 (some b) ∧ (∀ k, k < w2.heap.size → (Value.slice ao r.vals.length cap).ownBlock ≠ some k → w3.heap[k]? = w2.heap[k]?) := by
  have hrl : ∀ k, (Value.slice ao r.vals.length cap).ownBlock = some k → w.heap.size ≤ k ∧ k < wr.heap.size := fun k e => World.ownsRow.lt row k e
  have hz2 := g2.size
  have hzr := gr.size
  have hz3 : (w2.alloc O).heap.size = w2.heap.size + 1 := by simp
  have hblk : ∀ k, k < w2.heap.size → (Value.slice ao r.vals.length cap).ownBlock ≠ some k → w3.heap[k]? = w2.heap[k]? := fun k hk he => by
    rw [hgrow3.block k (by omega) (Ne.symm he)]
    exact Below.heap_alloc _ _ _ hk
  have hva : (r.app x).vals = r.vals ++ [v] := by rw [Row.vals_app, xv]
  have l1 := Row.lies_kept g2 (fun j e => by cases e; intro h; have := h.1; omega) _ lies
  have l2 := Row.lies_law (B := fun j => w.heap.size ≤ j ∧ (Value.slice ao r.vals.length cap).ownBlock ≠ some j ∧ g ≠ j) (fun j h hj => ⟨h.1, h.2, by
    rcases hat3 with e | e
    · intro e2; rw [e2] at e; exact h.2 e
    · omega⟩) _ l1
  have l3 := Row.lies_law (B := fun j => w.heap.size ≤ j ∧ (Value.slice ao r.vals.length cap).ownBlock ≠ some j ∧ g ≠ j) (fun j h hj => ⟨by omega, fun e => by have := (hrl _ e).2; omega, by
    rcases hat3 with e | e
    · have := (hrl _ e).2; omega
    · omega⟩) _ xl
  have l4 := Row.lies_app l3 _ l2
  have l5 := Row.lies_kept (grown_alloc w2 O none) (fun _ e => by cases e) _ l4
  have l6 := Row.lies_kept hgrow3 (fun j e h => h.2.1 e) _ l5
  refine ⟨?_, Row.lies_law (fun j h hj => ⟨h.1, fun e => h.2.2 (by simpa [Value.ownBlock] using e)⟩) _ l6, ?_, hblk⟩
  · rw [hva]
    simpa using hown3
  · refine ⟨hgrow3.os.trans (g2.os.trans gr.os), hgrow3.tape.trans (g2.tape.trans gr.tape), hgrow3.output.trans (g2.output.trans gr.output), ?_, fun k hk hkb => ?_⟩
    · have := hgrow3.size; omega
    · rw [hblk k (by omega) (fun e => by have := (hrl _ e).1; omega), g2.block k (by omega) hkb]
      exact gr.block k hk hkb
theorem Tryz.infoSg : (Tryz.prog.info? 94).map (fun i => (i.zero, i.size, i.bytes)) = some (some .nilIface, 1, 16) := by kernel_rfl

set_option maxRecDepth 100000 in
set_option maxHeartbeats 4000000 in
theorem cline_step (w : World) (b : Nat) (s : ByteArray) (c : UInt8) (ci : Int) (hc : ((c.toNat : Nat) : Int) = ci) (p : Nat) (ns : List ByteArray) (h : Cr w b s p ns.length) (hp : p ≤ s.size) (hs : s.size ≤ 120) (hnl : ns.length ≤ p) (hG : PatG w) (hbG : b ≠ 8)
    (S : Nat → List ByteArray → Rs)
    (hS : ∀ (w' : World) (p' : Nat) (ns' : List ByteArray), p ≤ p' → p' ≤ s.size → ns'.length ≤ p' → PatG w' → Cr w' b s p' ns'.length → Calls Tryz.prog 93 #[.pointer (some ⟨b, 0, none⟩)] w' fun e w'' => StgPost w' b s ns' (S p' ns') e w'')
    (hSF : ∀ p ns, p ≤ s.size → ns.length ≤ p → (p ≤ (S p ns).2.1 ∧ (S p ns).2.1 ≤ s.size ∧ (S p ns).2.2.length ≤ (S p ns).2.1) ∧ ((S p ns).1 = false → p < (S p ns).2.1)) :
    Calls Tryz.prog 74 #[.pointer (some ⟨b, 0, none⟩), .int .u8 ci] w fun e w' => LinePost w b s ns c (cdLine S s c p ns) e w' := by
  have hSL : Hid (∀ (w' : World) (p' : Nat) (ns' : List ByteArray), p ≤ p' → p' ≤ s.size → ns'.length ≤ p' → PatG w' → Cr w' b s p' ns'.length → Calls Tryz.prog 93 #[.pointer (some ⟨b, 0, none⟩)] w' fun e w'' => StgPost w' b s ns' (S p' ns') e w'') := hS
  have hSH : Hid (∀ p ns, p ≤ s.size → ns.length ≤ p → (p ≤ (S p ns).2.1 ∧ (S p ns).2.1 ≤ s.size ∧ (S p ns).2.2.length ≤ (S p ns).2.1) ∧ ((S p ns).1 = false → p < (S p ns).2.1)) := hSF
  clear hS hSF
  generalize hRES : cdLine S s c p ns = RES
  obtain ⟨i1, hi, hz0, hz1, hz2⟩ := info_parts Tryz.infoSg
  have hbl := h.lt
  go_enter Tryz.func74, Tryz.ntmps74
  go_wp2_with fail
  refine (closes_any w b s p _ c ci hc h hp hs).mono ?_
  rintro e w1 ⟨rfl, c1, g1⟩
  cases hcl : closB s c p with
  | true =>
    have hR : RES = (false, p, ns) := by rw [← hRES]; unfold cdLine; rw [if_pos hcl]
    subst hR
    clear hRES
    have hk : closP s c p = clP c (false, p, ns) := closed_place hcl
    rw [hk] at c1
    go_wp2
    go_ret2
    exact ⟨_, rfl, g1, ⟨_, _, _, rfl⟩, _, c1, fun _ => ⟨rfl, .nil, World.ownsRow_nil _ _ _ _, fun g e => (by cases e), trivial, by simp [Row.names, Row.flat], rfl⟩⟩
  | false =>
    have hR : cdGo S s c (s.size + 1) p ns = RES := by rw [← hRES]; unfold cdLine; rw [hcl]; rfl
    clear hRES
    have hk : closP s c p = p := open_place hcl
    rw [hk] at c1
    have hR0 : ClRel w w1 b s c p ns S RES (.slice none 0 0) p ns (s.size + 1) .nil := ⟨World.ownsRow_nil _ _ _ _, trivial, c1, g1, hp, hnl, Nat.le_refl _, Nat.zero_le _, by simp [Row.names, Row.flat], rfl, by omega, hR⟩
    clear hR
    go_wp2
    go_loopw [6] (fun t6 wr => ∃ p' ns' f r, ClRel w wr b s c p ns S RES t6 p' ns' f r) (fun _ wr => cOf wr b s.size)
    case atStart => exact ⟨p, ns, _, .nil, hR0⟩
    case round =>
      obtain ⟨p', ns', f, r, rel⟩ := hrel
      obtain ⟨ao, cap, rfl⟩ := row_form1 rel.row
      obtain ⟨row, lies, cr, gr, le, len, ge, num, nms, nmd, fuel, res⟩ := rel
      obtain ⟨f', rfl⟩ : ∃ f', f = f' + 1 := ⟨f - 1, by omega⟩
      have hGr : PatG wr := hG.grown gr (by simpa using hbG)
      have ST := hSL.out wr p' ns' ge le len hGr cr
      have fits := hSH.out p' ns' le len
      have hm0 := cOf_cr s.size cr
      have H1 : Hid ((S p' ns').1 = true → RES = S p' ns') := fun h => by rw [← res]; exact cdGo_bad h
      have H2 : Hid (¬ (S p' ns').1 = true → closB s c (S p' ns').2.1 = true → RES = S p' ns') := fun h k => by rw [← res]; exact cdGo_over h k
      have H3 : Hid (¬ (S p' ns').1 = true → ¬ closB s c (S p' ns').2.1 = true → isAt s (S p' ns').2.1 124 = true → cdGo S s c f' ((S p' ns').2.1 + 1) (S p' ns').2.2 = RES) := fun h k l => by rw [← res]; exact (cdGo_next h k l).symm
      have H4 : Hid (¬ (S p' ns').1 = true → ¬ closB s c (S p' ns').2.1 = true → ¬ isAt s (S p' ns').2.1 124 = true → RES = (true, (S p' ns').2.1, (S p' ns').2.2)) := fun h k l => by rw [← res]; exact cdGo_stop h k l
      clear res hR0
      have hbr := cr.lt
      go_wp2_with fail
      refine ST.mono ?_
      generalize S p' ns' = R' at *
      obtain ⟨bad, p1, ns1⟩ := R'
      rintro e w2 ⟨v, rfl, g2, k2, c2, r2⟩
      replace c2 : Cr w2 b s p1 k2 := c2
      replace fits : (p' ≤ p1 ∧ p1 ≤ s.size ∧ ns1.length ≤ p1) ∧ (bad = false → p' < p1) := fits
      clear ST
      cases bad with
      | true =>
        have hR := H1.out rfl
        subst hR
        clear H1 H2 H3 H4
        have hk : clP c (true, p1, ns1) = p1 := by unfold clP clo; split <;> rfl
        go_wp2
        go_ret2
        exact ⟨_, rfl, gr.trans g2, ⟨_, _, _, rfl⟩, k2, by rw [hk]; exact c2, fun e => (by cases e)⟩
      | false =>
        obtain ⟨hk2, x, xv, xl, xn, xd⟩ := r2 rfl
        subst hk2
        replace xn : ns1 = ns' ++ x.names := xn
        replace c2 : Cr w2 b s p1 ns1.length := c2
        have hlt1 := fits.2 rfl
        obtain ⟨tv, jv, rfl⟩ := vals_one xv
        have hrl : ∀ k, (Value.slice ao r.vals.length cap).ownBlock = some k → w.heap.size ≤ k ∧ k < wr.heap.size := fun k e => World.ownsRow.lt row k e
        have hlb : (Value.slice ao r.vals.length cap).ownBlock ≠ some b := fun e => by have := (hrl _ e).1; omega
        have row2 := World.ownsRow.kept row g2 (Or.inr hlb)
        have hzw := g2.size
        have hzr := gr.size
        clear H1 r2
        go_wp2_with (at_builtin; go_must (refine wpList_append_lies _ rfl (.tmp 20) (.tmp 22) 89 rfl w.heap.size 94 i1 _ 1 16 Tryz.underlying89 hi hz0 hz1 hz2 rfl (by decide) (.slice ao r.vals.length cap) r.vals.length r.vals rfl (World.ownsRow.alloc row2 _) ⟨w2.heap.size, 0, none⟩ 1 1 [.iface tv (.pointer (some ⟨jv, 0, none⟩))] rfl rfl ?c1 ?c2 (by omega) ?c3 ?c4 ?c5 (w2.heap.size + 1) ?c6 ?_))
        case c1 => exact World.news_of_block (heap_alloc_new _ _)
        case c2 => simp [Value.oneCell']
        case c3 => unfold maxLen; omega
        case c4 => omega
        case c5 => simp; omega
        case c6 => simp
        intro g cap' w3 hown3 hgrow3 hat3 hlt3
        obtain ⟨own', lies', gr', blk'⟩ := ln_app row lies gr hbl g2 xl hown3 xv hgrow3 hat3
        have c3 : Cr w3 b s p1 ns1.length := c2.of_block (blk' b c2.lt hlb)
        have nms' : ns1 = ns ++ (r.app x).names := by rw [xn, nms, Row.names_app, List.append_assoc]
        have nmd' : (r.app x).numd ns.length := Row.numd_app nmd (by rw [nms, List.length_append] at xd; exact xd)
        have num' : (r.app x).vals.length ≤ p1 := by rw [Row.vals_app, xv, List.length_append]; simp; omega
        have hvl : (r.app x).vals.length = r.vals.length + 1 := by rw [Row.vals_app, xv]; simp
        generalize r.app x = r' at *
        clear hown3 hgrow3 hat3 lies row row2 xl xv g2 xn xd nmd nms
        go_wp2_with fail
        refine (closes_any w3 b s p1 _ c ci hc c3 fits.1.2.1 hs).mono ?_
        rintro e w4 ⟨rfl, c4, g4⟩
        have gr4 := gr'.trans g4
        have hgl : ∀ k, (Value.slice (some ⟨g, 0, none⟩) (r.vals.length + 1) cap').ownBlock = some k → w.heap.size ≤ k := fun k e => (World.ownsRow.lt own' k e).1
        have own4 := World.ownsRow.kept own' g4 (Or.inr (fun e => by have := hgl _ e; omega))
        have lies4 := Row.lies_kept g4 (fun j e => by cases e; intro h; have := h.1; omega) _ lies'
        cases hcl1 : closB s c p1 with
        | true =>
          have hR := H2.out (by simp) hcl1
          subst hR
          clear H2 H3 H4
          have hk1 : closP s c p1 = clP c (false, p1, ns1) := closed_place hcl1
          rw [hk1] at c4
          rw [hvl] at own4
          go_wp2
          go_ret2
          refine ⟨_, rfl, gr4, ⟨_, _, _, rfl⟩, _, c4, fun _ => ⟨rfl, r', ?_, hgl, Row.lies_law (fun j h _ => h.1) _ lies4, nms', nmd'⟩⟩
          unfold RowAt
          rw [hvl]
          exact rowBase own4
        | false =>
          have hk1 : closP s c p1 = p1 := open_place hcl1
          rw [hk1] at c4
          go_wp2_with fail
          refine (skip_any w4 b s p1 _ 124 124 rfl c4 fits.1.2.1 hs).mono ?_
          rintro e w5 ⟨rfl, c5, g5⟩
          have gr5 := gr4.trans g5
          cases hat : isAt s p1 124 with
          | false =>
            have hR := H4.out (by simp) (by simp [hcl1]) (by simp [hat])
            subst hR
            clear H2 H3 H4
            have hk5 : skipS s 124 p1 = p1 := by unfold skipS; rw [hat]; rfl
            rw [hk5] at c5
            have hk : clP c (true, p1, ns1) = p1 := by unfold clP clo; split <;> rfl
            go_wp2
            go_ret2
            exact ⟨_, rfl, gr5, ⟨_, _, _, rfl⟩, _, by rw [hk]; exact c5, fun e => (by cases e)⟩
          | true =>
            have hR := H3.out (by simp) (by simp [hcl1]) hat
            have hk5 : skipS s 124 p1 = p1 + 1 := by unfold skipS; rw [hat]; rfl
            rw [hk5] at c5
            have hp5 : p1 + 1 ≤ s.size := isAt_size hat
            have own5 := World.ownsRow.kept own4 g5 (Or.inr (fun e => by have := hgl _ e; omega))
            have lies5 := Row.lies_kept g5 (fun j e => by cases e; intro h; have := h.1; omega) _ lies4
            have hm5 := cOf_cr s.size c5
            clear H2 H3 H4
            go_wp2
            exact ⟨⟨p1 + 1, ns1, f', r', ⟨own5, lies5, c5, gr5, hp5, by omega, by omega, by omega, nms', nmd', by omega, hR⟩⟩, by omega⟩
end Go.Proofs.YtdfkjgogdbeokaaGreatDoor
namespace Go.Proofs.YtdfkjgogdbeokaaGreatDoor
open Go.RowKit
set_option linter.unusedVariables false

theorem clos_over (s : ByteArray) (c : UInt8) (p : Nat) : closB s c p = overB s c p := rfl
theorem lnGo_cdGo {s : ByteArray} {c : UInt8} {S : Nat → List ByteArray → Rs} (hS : ∀ p ns, p ≤ s.size → ns.length ≤ p → Fits s (false, p, ns) (S p ns) ∧ ((S p ns).1 = false → p < (S p ns).2.1)) :
    ∀ (f p : Nat) (ns : List ByteArray), p ≤ s.size → ns.length ≤ p → s.size < p + f → lnGo S s c f false (S p ns) = cdGo S s c f p ns := by
  intro f
  induction f with
  | zero => intro p ns _ _ h; omega
  | succ f ih =>
    intro p ns h1 h2 h3
    have a := hS p ns h1 h2
    have H1 := @cdGo_bad S s c f p ns
    have H2 := @cdGo_over S s c f p ns
    have H3 := @cdGo_next S s c f p ns
    have H4 := @cdGo_stop S s c f p ns
    generalize S p ns = R at *
    obtain ⟨bad, p1, ns1⟩ := R
    unfold Fits at a
    simp only at a H1 H2 H3 H4
    cases bad with
    | true => rw [H1 rfl]; exact lnGo_bad rfl
    | false =>
      cases hc : closB s c p1 with
      | true => rw [H2 (by simp) hc]; exact lnGo_over hc
      | false =>
        cases ha : isAt s p1 124 with
        | true =>
          rw [H3 (by simp) (by simp [hc]) ha, lnGo_next hc ha]
          have := isAt_size ha
          exact ih (p1 + 1) ns1 this (by omega) (by have := a.2 rfl; omega)
        | false => rw [H4 (by simp) (by simp [hc]) (by simp [ha])]; exact lnGo_stop hc ha
theorem lnGo_cd {s : ByteArray} {c : UInt8} {S : Nat → List ByteArray → Rs} (hS : ∀ p ns, p ≤ s.size → ns.length ≤ p → Fits s (false, p, ns) (S p ns) ∧ ((S p ns).1 = false → p < (S p ns).2.1)) (p : Nat) (ns : List ByteArray) (h1 : p ≤ s.size) (h2 : ns.length ≤ p) :
    lnGo S s c (s.size + 2) true (false, p, ns) = cdLine S s c p ns := by
  unfold cdLine
  cases hc : closB s c p with
  | true => rw [if_pos rfl]; exact lnGo_over hc
  | false =>
    rw [if_neg (by simp), lnGo_first hc]
    exact lnGo_cdGo hS (s.size + 1) p ns h1 h2 (by omega)

/-- line, at any place. -/
theorem cline_any (b : Nat) (s : ByteArray) (hs : s.size ≤ 120) (hbG : b ≠ 8) : ∀ (f : Nat) (c : UInt8) (ci : Int) (w : World) (p : Nat) (ns : List ByteArray), ((c.toNat : Nat) : Int) = ci → s.size - p < f → p ≤ s.size → ns.length ≤ p → PatG w → Cr w b s p ns.length →
    Calls Tryz.prog 74 #[.pointer (some ⟨b, 0, none⟩), .int .u8 ci] w fun e w' => LinePost w b s ns c (lnF s f c (false, p, ns)) e w' := by
  intro f
  induction f with
  | zero => intro c ci w p ns _ h; omega
  | succ f ih =>
    intro c ci w p ns hc hf h1 h2 hG h3
    have hS := fun p ns a b => stS_fits s (lnF s f) (lnF_fits s f) p ns a b
    have e : lnF s (f + 1) c (false, p, ns) = cdLine (stS s (lnF s f)) s c p ns := lnGo_cd hS p ns h1 h2
    rw [e]
    refine cline_step w b s c ci hc p ns h3 h1 hs h2 hG hbG (stS s (lnF s f)) (fun w' p' ns' a0 a1 a2 a3 a4 => ?_) hS
    exact cstage_any w' b s p' ns' (lnF s f) a4 a1 hs a2 a3 hbG (fun c' ci' w'' p'' ns'' e1 e2 e3 e4 e5 e6 e7 => ih c' ci' w'' p'' ns'' e1 (by omega) e4 e5 e6 e7) (lnF_good s p' f (by omega))
end Go.Proofs.YtdfkjgogdbeokaaGreatDoor
