/-
  DERIVED. flowlinelaw.lined and flowlinelaw.parsed at any text.
-/
import Derived.Test.YtdfkjgogdbeokaaGreatDoorCdNames
import Derived.Test.YtdfkjgogdbeokaaGreatDoorOpenD
import Derived.Test.YtdfkjgogdbeokaaGreatDoorCdPP
import Derived.Test.YtdfkjgogdbeokaaGreatDoorRfParse
import Derived.Test.YtdfkjgogdbeokaaGreatDoorKeptW
import Derived.Deep.OwnRows
namespace Go.Proofs.YtdfkjgogdbeokaaGreatDoor
open Go.RowKit
set_option linter.unusedVariables false

theorem grown_below {w w' : World} (h : Below w.heap.size w w') : w.grownBy w' none := ⟨h.os, h.tape, h.output, h.size, fun k hk _ => h.block k hk⟩
theorem below_grown {w w' : World} (h : w.grownBy w' none) : Below w.heap.size w w' := ⟨h.os, h.tape, h.output, h.size, fun k hk => h.block k hk (by simp)⟩
set_option maxRecDepth 100000 in
set_option maxHeartbeats 2000000 in
theorem lined_none (w : World) (s : ByteArray) (code pl : Int) (hc : code ≠ 0)
    (hP : Calls Tryz.prog 30 #[.string s] w fun e w1 => e = .returned (.tuple #[.pointer none, .agg #[.int .i64 code, .int .i64 pl, .string ⟨#[]⟩]]) ∧ w.grownBy w1 none)
    (hR : ∀ w1, Calls Tryz.prog 24 #[.string s] w1 fun e w' => e = .returned (.tuple #[.pointer none, .int .i64 code, .int .i64 pl]) ∧ w1.grownBy w' none) :
    Calls Tryz.prog 11 #[.string s] w fun e w' => e = .returned (.tuple #[.pointer none, .pointer none, .bool true]) ∧ w.grownBy w' none := by
  have hcb : (code != 0) = true := by simpa using hc
  go_enter Tryz.func11, Tryz.ntmps11
  go_wp2_with fail
  refine Calls.mono (show Calls _ _ _ w _ from hP) ?_
  rintro e w1 ⟨rfl, g1⟩
  have e1 : (w1.alloc (.cells #[.int .i64 code, .int .i64 pl, .string ⟨#[]⟩] 60)).heap[w1.heap.size]? = some (.cells #[.int .i64 code, .int .i64 pl, .string ⟨#[]⟩] 60 (0, 0)) := heap_alloc_new _ _
  have gw : w.grownBy (w1.alloc (.cells #[.int .i64 code, .int .i64 pl, .string ⟨#[]⟩] 60)) none := g1.trans (grown_alloc _ _ _)
  clear hP g1
  go_wp2_with fail
  generalize w1.alloc (.cells #[.int .i64 code, .int .i64 pl, .string ⟨#[]⟩] 60) = w2 at *
  refine (hR w2).mono ?_
  rintro e w3 ⟨rfl, g3⟩
  have e3 : w3.heap[w1.heap.size]? = some (.cells #[.int .i64 code, .int .i64 pl, .string ⟨#[]⟩] 60 (0, 0)) := by rw [g3.block _ (lt_of_some e1) (by simp)]; exact e1
  have c0 : w3.cell? ⟨w1.heap.size, 0, none⟩ = some (.int .i64 code) := by simp [World.cell?, e3]
  have c1 : w3.cell? ⟨w1.heap.size, 1, none⟩ = some (.int .i64 pl) := by simp [World.cell?, e3]
  have c2 : w3.cell? ⟨w1.heap.size, 2, none⟩ = some (.string ⟨#[]⟩) := by simp [World.cell?, e3]
  have gw3 := gw.trans g3
  clear hR
  go_wp2
  go_quiet (fail)
  go_wp2
  go_ret3
  exact ⟨rfl, gw3.trans (grown_drewN _ _ _)⟩

theorem own_base {w : World} {B n sz : Nat} {t : TypeId} {v : Value} {xs : List Value} (h : w.ownsRow B t sz v n xs) : w.ownsRow 0 t sz v n xs := by
  obtain ⟨hl, h | ⟨g, cap, cur, hv, hg, rest⟩⟩ := h
  · exact ⟨hl, Or.inl h⟩
  · exact ⟨hl, Or.inr ⟨g, cap, cur, hv, Nat.zero_le _, rest⟩⟩
/-- What lined leaves: the line of the code, the line of the reference; all of it in blocks below N. -/
structure PF (N : Nat) (s : ByteArray) (j k : Nat) (v lv nv : Value) (r : Row) (ns : List ByteArray) (W : World) : Prop where
  hj : W.heap[j]? = some (.cells #[.string s, v] 91 (0, 0))
  hk : W.heap[k]? = some (.cells #[.string s, lv, nv] 52 (0, 0))
  row : RowAt W v r.vals
  lies : r.lies W (fun x => x < N)
  own : W.ownsRow 0 9 1 nv ns.length (ns.map Value.string)
  lj : j < N
  lk : k < N
  lv_ : ∀ g, v.ownBlock = some g → g < N
  ln : ∀ g, nv.ownBlock = some g → g < N
  sz : N ≤ W.heap.size
theorem PF.kept {N : Nat} {s : ByteArray} {j k : Nat} {v lv nv : Value} {r : Row} {ns : List ByteArray} {W W' : World} {o : Option Nat} (h : PF N s j k v lv nv r ns W) (g : W.grownBy W' o) (ho : ∀ x, o = some x → N ≤ x) : PF N s j k v lv nv r ns W' := by
  have hno : ∀ x, x < N → some x ≠ o := fun x hx e => by have := ho x e.symm; omega
  have own' : ∀ {u : Value}, (∀ g, u.ownBlock = some g → g < N) → u.ownBlock = none ∨ u.ownBlock ≠ o := fun {u} hu => by
    cases e : u.ownBlock with
    | none => exact Or.inl rfl
    | some x => exact Or.inr (hno x (hu x e))
  refine ⟨?_, ?_, ?_, ?_, ?_, h.lj, h.lk, h.lv_, h.ln, Nat.le_trans h.sz g.size⟩
  · rw [g.block j (lt_of_some h.hj) (fun e => hno j h.lj e)]; exact h.hj
  · rw [g.block k (lt_of_some h.hk) (fun e => hno k h.lk e)]; exact h.hk
  · exact World.ownsRow.kept h.row g (own' h.lv_)
  · exact Row.lies_kept g (fun x e hx => by have := ho x e; omega) _ h.lies
  · exact World.ownsRow.kept h.own g (own' h.ln)

set_option maxRecDepth 100000 in
set_option maxHeartbeats 4000000 in
theorem lined_ok (w : World) (s : ByteArray) (ns : List ByteArray)
    (hP : Calls Tryz.prog 30 #[.string s] w fun e w1 => w.grownBy w1 none ∧ ∃ j v, ∃ r : Row, e = .returned (.tuple #[.pointer (some ⟨j, 0, none⟩), .agg #[.int .i64 0, .int .i64 0, .string ⟨#[]⟩]]) ∧ w1.heap[j]? = some (.cells #[.string s, v] 91 (0, 0)) ∧
      RowAt w1 v r.vals ∧ r.lies w1 (fun _ => True) ∧ r.names = ns)
    (hR : ∀ w1, Calls Tryz.prog 24 #[.string s] w1 fun e w' => w1.grownBy w' none ∧ ∃ k lv nv, e = .returned (.tuple #[.pointer (some ⟨k, 0, none⟩), .int .i64 0, .int .i64 0]) ∧
      w'.heap[k]? = some (.cells #[.string s, lv, nv] 52 (0, 0)) ∧ w'.ownsRow (w1.heap.size + 1) 9 1 nv ns.length (ns.map Value.string)) :
    Calls Tryz.prog 11 #[.string s] w fun e w' => w.grownBy w' none ∧ ∃ j k v lv nv, ∃ r : Row, e = .returned (.tuple #[.pointer (some ⟨j, 0, none⟩), .pointer (some ⟨k, 0, none⟩), .bool true]) ∧ PF w'.heap.size s j k v lv nv r ns w' ∧ r.names = ns := by
  go_enter Tryz.func11, Tryz.ntmps11
  go_wp2_with fail
  refine Calls.mono (show Calls _ _ _ w _ from hP) ?_
  rintro e w1 ⟨g1, j, v, r, rfl, hj, hrow, hlies, hnm⟩
  have e1 : (w1.alloc (.cells #[.int .i64 0, .int .i64 0, .string ⟨#[]⟩] 60)).heap[w1.heap.size]? = some (.cells #[.int .i64 0, .int .i64 0, .string ⟨#[]⟩] 60 (0, 0)) := heap_alloc_new _ _
  have ga := grown_alloc w1 (.cells #[.int .i64 0, .int .i64 0, .string ⟨#[]⟩] 60) none
  have gw : w.grownBy (w1.alloc (.cells #[.int .i64 0, .int .i64 0, .string ⟨#[]⟩] 60)) none := g1.trans ga
  clear hP g1
  go_wp2_with fail
  generalize w1.alloc (.cells #[.int .i64 0, .int .i64 0, .string ⟨#[]⟩] 60) = w2 at *
  refine (hR w2).mono ?_
  rintro e w3 ⟨g3, k, lv, nv, rfl, hk, hnv⟩
  have e3 : w3.heap[w1.heap.size]? = some (.cells #[.int .i64 0, .int .i64 0, .string ⟨#[]⟩] 60 (0, 0)) := by rw [g3.block _ (lt_of_some e1) (by simp)]; exact e1
  have c0 : w3.cell? ⟨w1.heap.size, 0, none⟩ = some (.int .i64 0) := by simp [World.cell?, e3]
  have gw3 := gw.trans g3
  have g13 := ga.trans g3
  have hj3 : w3.heap[j]? = some (.cells #[.string s, v] 91 (0, 0)) := by rw [g13.block _ (lt_of_some hj) (by simp)]; exact hj
  have hrow3 := rowAt_kept hrow g13 (Or.inl rfl)
  have hlies3 := Row.lies_kept g13 (fun _ e => by cases e) _ hlies
  have pf : PF w3.heap.size s j k v lv nv r ns w3 := ⟨hj3, hk, hrow3, Row.lies_law (fun _ _ h => h) _ hlies3, own_base hnv, lt_of_some hj3, lt_of_some hk, fun g e => rowAt_lt hrow3 e, fun g e => (World.ownsRow.lt hnv g e).2, Nat.le_refl _⟩
  have PFH : Hid (PF w3.heap.size s j k v lv nv r ns w3) := pf
  clear hR pf hj3 hrow3 hlies3 hrow hlies hj ga g3 gw e1 hk hnv g13
  go_wp2
  go_ret3
  exact ⟨gw3, j, k, v, lv, nv, r, rfl, PFH.out, hnm⟩

/-- The caller's own list of words, written over. -/
structure RowL (w4 wr : World) (an : Option Addr) (n cn : Nat) : Prop where
  grown : w4.grownBy wr (Value.slice an n cn).ownBlock
  row : 0 < n → ∃ g cur, an = some ⟨g, 0, none⟩ ∧ wr.heap[g]? = some (.cells cur 9 (0, 0)) ∧ n ≤ cur.size
theorem rowL_of {w : World} {B n cn : Nat} {an : Option Addr} {xs : List Value} (h : w.ownsRow B 9 1 (.slice an n cn) n xs) : RowL w w an n cn := by
  refine ⟨grown_refl _ _, fun hn => ?_⟩
  obtain ⟨hl, h | ⟨g, cap, cur, hv, hg, hh, hn', hm, hs, ht⟩⟩ := h
  · obtain ⟨h, _⟩ := h
    cases h
    omega
  · cases hv
    exact ⟨g, cur, rfl, hh, by omega⟩
theorem RowL.at {w4 wr : World} {an : Option Addr} {n cn : Nat} (h : RowL w4 wr an n cn) (i : Nat) (hi : i < n) : ∃ g, an = some ⟨g, 0, none⟩ ∧ ∃ u, wr.cell? ⟨g, i, none⟩ = some u ∧ wr.frozen? ⟨g, i, none⟩ = false := by
  obtain ⟨g, cur, e, hh, hs⟩ := h.row (by omega)
  refine ⟨g, e, cur[i]'(by omega), ?_, ?_⟩
  · simp [World.cell?, hh]
  · simp [World.frozen?, hh]
theorem RowL.set {w4 wr : World} {g n cn : Nat} (h : RowL w4 wr (some ⟨g, 0, none⟩) n cn) (i : Nat) (hi : i < n) (v : Value) : RowL w4 (wr.setCell ⟨g, i, none⟩ v) (some ⟨g, 0, none⟩) n cn := by
  refine ⟨h.grown.trans (grown_set wr g i v), fun hn => ?_⟩
  obtain ⟨g', cur, e, hh, hs⟩ := h.row hn
  cases e
  exact ⟨g, _, rfl, setCell_block hh _, by simpa using hs⟩

def opO (kd oa ob : Int) (s t : ByteArray) (sl : Value) : Obj := .cells #[.int .i64 kd, .int .i64 oa, .int .i64 ob, .string s, .string t, sl] 27
theorem names_str (r : Row) : r.flat.map (fun x => Value.string x.1) = r.names.map Value.string := by simp [Row.names]

set_option maxRecDepth 100000 in
set_option maxHeartbeats 2000000 in
theorem parsed_none (w : World) (kd oa ob : Int) (s t : ByteArray) (sl : Value)
    (hL : Calls Tryz.prog 11 #[.string s] (w.alloc (opO kd oa ob s t sl)) fun e w' => e = .returned (.tuple #[.pointer none, .pointer none, .bool true]) ∧ (w.alloc (opO kd oa ob s t sl)).grownBy w' none) :
    Calls Tryz.prog 8 #[.agg #[.int .i64 kd, .int .i64 oa, .int .i64 ob, .string s, .string t, sl]] w fun e w' => e = .returned (.bool true) ∧ Below w.heap.size w w' := by
  go_enter Tryz.func8, Tryz.ntmps8
  go_wp2_with fail
  refine Calls.mono (show Calls _ _ _ (w.alloc (opO kd oa ob s t sl)) _ from hL) ?_
  rintro e w1 ⟨rfl, g1⟩
  have gw : w.grownBy w1 none := (grown_alloc w (opO kd oa ob s t sl) none).trans g1
  clear hL g1
  go_wp2
  go_ret
  exact ⟨rfl, below_grown gw⟩

set_option maxRecDepth 100000 in
set_option maxHeartbeats 4000000 in
theorem parsed_ok (w : World) (kd oa ob : Int) (s t : ByteArray) (sl : Value) (ns : List ByteArray) (hns : ns.length ≤ 12)
    (hL : Calls Tryz.prog 11 #[.string s] (w.alloc (opO kd oa ob s t sl)) fun e w' => (w.alloc (opO kd oa ob s t sl)).grownBy w' none ∧ ∃ j k v lv nv, ∃ r : Row, e = .returned (.tuple #[.pointer (some ⟨j, 0, none⟩), .pointer (some ⟨k, 0, none⟩), .bool true]) ∧ PF w'.heap.size s j k v lv nv r ns w' ∧ r.names = ns) :
    Calls Tryz.prog 8 #[.agg #[.int .i64 kd, .int .i64 oa, .int .i64 ob, .string s, .string t, sl]] w fun e w' => e = .returned (.bool true) ∧ Below w.heap.size w w' := by
  go_enter Tryz.func8, Tryz.ntmps8
  go_wp2_with fail
  refine Calls.mono (show Calls _ _ _ (w.alloc (opO kd oa ob s t sl)) _ from hL) ?_
  rintro e w1 ⟨g1, j, k, v, lv, nv, r, rfl, pf, hnm⟩
  have hz1 : w.heap.size < w1.heap.size := by have := g1.size; simp at this; omega
  have o1 : w1.heap[w.heap.size]? = some (opO kd oa ob s t sl) := by rw [g1.block _ (by simp) (by simp)]; exact heap_alloc_new _ _
  have gw : w.grownBy w1 none := (grown_alloc w (opO kd oa ob s t sl) none).trans g1
  have hfl : r.flat.length = ns.length := by rw [← hnm]; simp [Row.names]
  have hstr : r.flat.map (fun x => Value.string x.1) = ns.map Value.string := by rw [names_str, hnm]
  obtain ⟨am, cm, rfl⟩ := row_form1 pf.own
  have LS := lstring_any w1 j s v pf.hj
  have PFH : Hid (PF w1.heap.size s j k v lv (.slice am ns.length cm) r ns w1) := pf
  clear hL g1 pf
  go_wp2_with fail
  refine LS.mono ?_
  rintro e w2 ⟨rfl, g2⟩
  have pf2 := PFH.out.kept g2 (fun _ e => by cases e)
  have o2 : w2.heap[w.heap.size]? = some (opO kd oa ob s t sl) := by rw [g2.block _ (lt_of_some o1) (by simp)]; exact o1
  have LN := lnames_any w2 j s v r _ pf2.hj pf2.row pf2.lies (by omega)
  rw [hstr, hfl] at LN
  have gw2 := gw.trans g2
  have PFH2 : Hid (PF w1.heap.size s j k v lv (.slice am ns.length cm) r ns w2) := pf2
  clear LS PFH g2 o1 gw pf2
  go_wp2_with fail
  refine LN.mono ?_
  rintro e w3 ⟨nv3, rfl, own3, g3⟩
  obtain ⟨an, cn, rfl⟩ := row_form1 own3
  have pf3 := PFH2.out.kept g3 (fun _ e => by cases e)
  have o3 : w3.heap[w.heap.size]? = some (opO kd oa ob s t sl) := by rw [g3.block _ (lt_of_some o2) (by simp)]; exact o2
  have gw3 := gw2.trans g3
  have m2 : w3.cell? ⟨k, 2, none⟩ = some (.slice am ns.length cm) := by simp [World.cell?, pf3.hk]
  have NS := named_same w3 ns an am cn cm (Reads.of_owns own3) (Reads.of_owns pf3.own) (by omega)
  have hsz2 := PFH2.out.sz
  have PFH3 : Hid (PF w1.heap.size s j k v lv (.slice am ns.length cm) r ns w3) := pf3
  have lk := pf3.lk
  clear LN PFH2 g3 o2 gw2 pf3
  go_wp2_with fail
  refine NS.mono ?_
  rintro e w4 ⟨rfl, hb4⟩
  have g4 := grown_below hb4
  have pf4 := PFH3.out.kept g4 (fun _ e => by cases e)
  have o4 : w4.heap[w.heap.size]? = some (opO kd oa ob s t sl) := by rw [g4.block _ (lt_of_some o3) (by simp)]; exact o3
  have gw4 := gw3.trans g4
  have own4 := own_kept own3 g4
  have PFH4 : Hid (PF w1.heap.size s j k v lv (.slice am ns.length cm) r ns w4) := pf4
  have RL0 : RowL w4 w4 an ns.length cn := rowL_of own4
  have hlo : ∀ x, (Value.slice an ns.length cn).ownBlock = some x → w1.heap.size ≤ x := fun x e => Nat.le_trans hsz2 (World.ownsRow.lt own4 x e).1
  have HLO : Hid (∀ x, (Value.slice an ns.length cn).ownBlock = some x → w1.heap.size ≤ x) := hlo
  clear NS PFH3 g4 hb4 o3 gw3 pf4 own3 m2 own4 hlo
  go_wp2
  go_loopw [9] (fun t9 wr => ∃ i, t9 = .int .i64 (i : Nat) ∧ i ≤ ns.length ∧ RowL w4 wr an ns.length cn) (fun t _ => ns.length - (intOf t).toNat)
  case atStart => exact ⟨0, rfl, Nat.zero_le _, RL0⟩
  case round =>
    obtain ⟨i, rfl, hi, rl⟩ := hrel
    clear RL0
    by_cases hlt : i < ns.length
    · have hii : (i : Int) < (ns.length : Int) := by omega
      obtain ⟨g, rfl, u, hc, hz⟩ := rl.at i hlt
      have rl' := rl.set i hlt (.string ⟨#[63]⟩)
      clear rl
      go_wp2
      exact ⟨⟨i + 1, by simp, by omega, rl'⟩, by simp [intOf]; omega⟩
    · have hi2 : i = ns.length := by omega
      subst hi2
      have hii : ¬ ((ns.length : Int) < (ns.length : Int)) := by omega
      have pf5 := PFH4.out.kept rl.grown HLO.out
      have o5 : wr.heap[w.heap.size]? = some (opO kd oa ob s t sl) := by rw [rl.grown.block _ (lt_of_some o4) (fun e => by have := HLO.out _ e.symm; omega)]; exact o4
      have b5 : Below w.heap.size w wr := (below_grown gw4).grown rl.grown gw4.size (fun x e => by have := HLO.out x e; omega)
      have LN5 := lnames_any wr j s v r _ pf5.hj pf5.row pf5.lies (by omega)
      rw [hstr, hfl] at LN5
      have PFH5 : Hid (PF w1.heap.size s j k v lv (.slice am ns.length cm) r ns wr) := pf5
      clear pf5 rl PFH4 o4 gw4 HLO
      go_wp2_with fail
      refine LN5.mono ?_
      rintro e w6 ⟨nv6, rfl, own6, g6⟩
      obtain ⟨an6, cn6, rfl⟩ := row_form1 own6
      have pf6 := PFH5.out.kept g6 (fun _ e => by cases e)
      have o6 : w6.heap[w.heap.size]? = some (opO kd oa ob s t sl) := by rw [g6.block _ (lt_of_some o5) (by simp)]; exact o5
      have b6 : Below w.heap.size w w6 := b5.grown g6 b5.size (fun _ e => by cases e)
      have m6 : w6.cell? ⟨k, 2, none⟩ = some (.slice am ns.length cm) := by simp [World.cell?, pf6.hk]
      have NS6 := named_same w6 ns an6 am cn6 cm (Reads.of_owns own6) (Reads.of_owns pf6.own) (by omega)
      clear LN5 PFH5 g6 o5 b5 pf6 own6
      go_wp2_with fail
      refine NS6.mono ?_
      rintro e w7 ⟨rfl, hb7⟩
      have o7 : w7.heap[w.heap.size]? = some (opO kd oa ob s t sl) := by rw [hb7.block _ (lt_of_some o6)]; exact o6
      have b7 : Below w.heap.size w w7 := b6.trans (hb7.mono b6.size)
      have s7 : w7.cell? ⟨w.heap.size, 3, none⟩ = some (.string s) := by simp [World.cell?, o7, opO]
      clear NS6 hb7 o6 b6 m6 o7
      go_wp2
      go_ret
      exact ⟨rfl, b7⟩
end Go.Proofs.YtdfkjgogdbeokaaGreatDoor
namespace Go.Proofs.YtdfkjgogdbeokaaGreatDoor
open Go.RowKit
set_option linter.unusedVariables false

/-- lined at any text, and so parsed at any step. -/
theorem parsed_any (a : Nat → Addr) (w : World) (kd oa ob : Int) (s t : ByteArray) (sl : Value) (hS : Sents a w) (hG : PatG w) :
    Calls Tryz.prog 8 #[.agg #[.int .i64 kd, .int .i64 oa, .int .i64 ob, .string s, .string t, sl]] w fun e w' => e = .returned (.bool true) ∧ Below w.heap.size w w' := by
  by_cases h : 120 < s.size
  · refine parsed_none w kd oa ob s t sl (lined_none _ s 2 0 (by decide) (pparse_long a (w.alloc (opO kd oa ob s t sl)) s (hS.alloc _) h) (fun w1 => (ref_long w1 s h).mono ?_))
    rintro e w' ⟨rfl, rfl⟩
    exact ⟨rfl, grown_refl _ _⟩
  · have h1 : s.size ≤ 120 := by omega
    have hp := pparse_short a (w.alloc (opO kd oa ob s t sl)) s (hS.alloc _) (hG.grown (grown_alloc w (opO kd oa ob s t sl) none) (by simp)) h1
    have hr := fun w1 => ref_short w1 s h1
    generalize pR s = R at *
    obtain ⟨bad, p, ns⟩ := R
    cases bad with
    | true =>
      refine parsed_none w kd oa ob s t sl (lined_none _ s 1 p (by decide) (hp.mono ?_) (fun w1 => (hr w1).mono ?_))
      · rintro e w1 ⟨g, ⟨_, rfl⟩ | ⟨e, _⟩ | ⟨e, _⟩⟩
        · exact ⟨rfl, g⟩
        · cases e
        · cases e
      · rintro e w' ⟨g, ⟨_, rfl⟩ | ⟨e, _⟩ | ⟨e, _⟩⟩
        · exact ⟨rfl, g⟩
        · cases e
        · cases e
    | false =>
      by_cases hl : 12 < ns.length
      · refine parsed_none w kd oa ob s t sl (lined_none _ s 3 0 (by decide) (hp.mono ?_) (fun w1 => (hr w1).mono ?_))
        · rintro e w1 ⟨g, ⟨e, _⟩ | ⟨_, _, rfl⟩ | ⟨_, e, _⟩⟩
          · cases e
          · exact ⟨rfl, g⟩
          · exact absurd (show ns.length ≤ 12 from e) (by omega)
        · rintro e w' ⟨g, ⟨e, _⟩ | ⟨_, _, rfl⟩ | ⟨_, e, _⟩⟩
          · cases e
          · exact ⟨rfl, g⟩
          · exact absurd (show ns.length ≤ 12 from e) (by omega)
      · refine parsed_ok w kd oa ob s t sl ns (by omega) (lined_ok _ s ns (hp.mono ?_) (fun w1 => (hr w1).mono ?_))
        · rintro e w1 ⟨g, ⟨e, _⟩ | ⟨_, e, _⟩ | ⟨_, _, j, v, r, rfl, _, hj, hrow, hlies, hn, hnum⟩⟩
          · cases e
          · exact absurd (show 12 < ns.length from e) hl
          · exact ⟨g, j, v, r, rfl, hj, hrow, Row.lies_law (fun _ _ _ => trivial) _ hlies, hn⟩
        · rintro e w' ⟨g, ⟨e, _⟩ | ⟨_, e, _⟩ | ⟨_, _, k, lv, nv, rfl, _, hk, hnv⟩⟩
          · cases e
          · exact absurd (show 12 < ns.length from e) hl
          · exact ⟨g, k, lv, nv, rfl, hk, hnv⟩

set_option maxRecDepth 100000 in
set_option maxHeartbeats 1000000 in
theorem plays1 (a0 : Nat → Addr) (w : World) (o : OpD) (ho : OpOk w o) (hS : Sents a0 w) (hG : PatG w) (h8 : o.kd = 1) :
    Calls Tryz.prog 6 #[o.v] w fun e w' => e = .returned (.bool true) ∧ Below w.heap.size w w' := by
  obtain ⟨kd, a, b, s, t, ia, ic, xs⟩ := o
  simp only at h8
  subst h8
  have hba : Below w.heap.size w (w.alloc (.cells #[.int .i64 1, .int .i64 a, .int .i64 b, .string s, .string t, .slice ia xs.length ic] 27)) := (Below.refl _ _).alloc (Nat.le_refl _) _
  have hra : Reads _ (.slice ia xs.length ic) 5 xs.length (xs.flatMap It.rc) := ho.rd.below hba
  have hlen : xs.length * 48 ≤ 140737488351232 := ho.len
  have HS : Hid (Sents a0 w) := hS
  have HG : Hid (PatG w) := hG
  clear hS hG
  unfold OpD.v
  go_enter Tryz.func6, Tryz.ntmps6
  go_wp2_with fail
  refine (kept_any _ xs ia ic hra hlen).mono ?_
  rintro e w1 ⟨v, rfl, hv, hb1⟩
  obtain ⟨a1, c1, h1, _⟩ := Reads.of_owns hv
  subst h1
  have r1 := Reads.of_owns hv
  obtain ⟨hc, hf⟩ := bcell' hb1
  have hz : w.heap.size < w1.heap.size := by have := hb1.size; simp at this; omega
  have c0 : w1.cell? ⟨w.heap.size, 0, none⟩ = some (.int .i64 1) := by rw [hc _ _ (by simp)]; simp [go_sem]
  have c1' : w1.cell? ⟨w.heap.size, 1, none⟩ = some (.int .i64 a) := by rw [hc _ _ (by simp)]; simp [go_sem]
  have c2 : w1.cell? ⟨w.heap.size, 2, none⟩ = some (.int .i64 b) := by rw [hc _ _ (by simp)]; simp [go_sem]
  have c3 : w1.cell? ⟨w.heap.size, 3, none⟩ = some (.string s) := by rw [hc _ _ (by simp)]; simp [go_sem]
  have c4 : w1.cell? ⟨w.heap.size, 4, none⟩ = some (.string t) := by rw [hc _ _ (by simp)]; simp [go_sem]
  have c5 : w1.cell? ⟨w.heap.size, 5, none⟩ = some (.slice ia xs.length ic) := by rw [hc _ _ (by simp)]; simp [go_sem]
  have f5 : w1.frozen? ⟨w.heap.size, 5, none⟩ = false := by rw [hf _ _ (by simp)]; simp [go_sem]
  have hbw : Below w.heap.size w (w1.setCell ⟨w.heap.size, 5, none⟩ (.slice a1 xs.length c1)) := (hba.trans (hb1.mono (by simp))).setCell (Nat.le_refl _) _
  clear hc hf hv r1
  go_wp2_with fail
  refine (parsed_any a0 _ 1 a b s t _ (HS.out.below hbw) (HG.out.grown (grown_of_below hbw) (by simp))).mono ?_
  rintro e w2 ⟨rfl, hb2⟩
  go_wp2
  try rw [Exit.noGoto_ret]
  go_ret
  exact ⟨rfl, hbw.trans (hb2.mono hbw.size)⟩

set_option maxRecDepth 100000 in
set_option maxHeartbeats 1000000 in
theorem upto_any (w : World) (ops : List OpD) (ap : Option Addr) (cap : Nat) (m : Int) (hr : Reads w (.slice ap ops.length cap) 6 ops.length (ops.flatMap OpD.cells)) (hlen : ops.length * 80 ≤ 140737488351232)
    (hp : ∀ o ∈ ops, o.kd = m → ∀ W : World, Below w.heap.size w W → Calls Tryz.prog 6 #[o.v] W fun e w' => e = .returned (.bool true) ∧ Below W.heap.size W w') :
    Calls Tryz.prog 5 #[.slice ap ops.length cap, .int .i64 m, .int .i64 m] w fun e w' => e = .returned (.int .i64 (-1)) ∧ Below w.heap.size w w' := by
  have HP : Hid (∀ o ∈ ops, o.kd = m → ∀ W : World, Below w.heap.size w W → Calls Tryz.prog 6 #[o.v] W fun e w' => e = .returned (.bool true) ∧ Below W.heap.size W w') := hp
  clear hp
  go_enter Tryz.func5, Tryz.ntmps5
  go_wp2
  go_loopw [7] (fun t wr => ∃ k : Nat, k ≤ ops.length ∧ t = .int .i64 k ∧ Below w.heap.size w wr) (fun t _ => ops.length - (intOf t).toNat)
  case atStart => exact ⟨0, Nat.zero_le _, rfl, Below.refl _ _⟩
  case round =>
    obtain ⟨k, hk, rfl, hb⟩ := hrel
    by_cases hlt : k < ops.length
    · obtain ⟨b, o, cap', hvv, hbl, hc⟩ := hr.elem (by omega) op_six k hlt
      cases hvv
      have HQ : Hid (ops[k].kd = m → ∀ W : World, Below w.heap.size w W → Calls Tryz.prog 6 #[ops[k].v] W fun e w' => e = .returned (.bool true) ∧ Below W.heap.size W w') := HP.out ops[k] (List.getElem_mem hlt)
      have hcr : ∀ j u, j < 6 → (OpD.cells ops[k])[j]? = some u → wr.cell? ⟨b, o + k * 6 + j, none⟩ = some u := fun j u hj hu => by rw [hb.cell (p := ⟨b, o + k * 6 + j, none⟩) hbl]; exact hc j u hj hu
      have s0 : wr.cell? ⟨b, o + k * 6, none⟩ = some (.int .i64 ops[k].kd) := hcr 0 _ (by omega) rfl
      have s1 := hcr 1 _ (by omega) rfl
      have s2 := hcr 2 _ (by omega) rfl
      have s3 := hcr 3 _ (by omega) rfl
      have s4 := hcr 4 _ (by omega) rfl
      have s5 := hcr 5 _ (by omega) rfl
      have hk60 : (k : Int) < 1152921504606846976 := by omega
      clear hc hcr
      by_cases hkd : ops[k].kd = m
      · have HQ' := HQ.out hkd
        have h1 : m ≤ ops[k].kd := by omega
        have h2 : ops[k].kd ≤ m := by omega
        have HC : Hid (∀ W : World, Below w.heap.size w W → Calls Tryz.prog 6 #[ops[k].v] W fun e w' => e = .returned (.bool true) ∧ Below W.heap.size W w') := HQ'
        have hba := hb.alloc hb.size (.cells #[.int .i64 ops[k].kd, .int .i64 ops[k].a, .int .i64 ops[k].b, .string ops[k].s, .string ops[k].t, .slice ops[k].ia ops[k].xs.length ops[k].ic] 27)
        clear HQ' hkd HQ
        go_wp2_with fail
        refine (HC.out _ hba).mono ?_
        rintro e w1 ⟨rfl, hb1⟩
        go_wp2
        exact ⟨⟨k + 1, by omega, by go_num, hba.trans (hb1.mono hba.size)⟩, by simp [intOf]; omega⟩
      · clear HQ
        by_cases hge : m ≤ ops[k].kd
        · have hle : ¬ ops[k].kd ≤ m := by omega
          go_wp2
          exact ⟨⟨k + 1, by omega, by go_num, hb.alloc hb.size _⟩, by simp [intOf]; omega⟩
        · go_wp2
          exact ⟨⟨k + 1, by omega, by go_num, hb.alloc hb.size _⟩, by simp [intOf]; omega⟩
    · obtain rfl : k = ops.length := by omega
      go_wp2
      go_ret
      exact ⟨rfl, hb⟩

theorem parses_any (a : Nat → Addr) (w : World) (hS : Sents a w) (hG : PatG w) (ops : List OpD) (ap : Option Addr) (cap : Nat) (hr : Reads w (.slice ap ops.length cap) 6 ops.length (ops.flatMap OpD.cells)) (hlen : ops.length * 80 ≤ 140737488351232) (ho : ∀ o ∈ ops, OpOk w o) :
    Calls Tryz.prog 3 #[.slice ap ops.length cap] w fun e w' => e = .returned (.bool true) ∧ Below w.heap.size w w' := by
  go_enter Tryz.func3, Tryz.ntmps3
  go_wp2_with fail
  refine (upto_any w ops ap cap 1 hr hlen (fun o hm h8 W hW => plays1 a W o ((ho o hm).below hW) (hS.below hW) (hG.grown (grown_of_below hW) (by simp)) h8)).mono ?_
  rintro e w1 ⟨rfl, hb1⟩
  go_wp2
  go_ret
  exact ⟨rfl, hb1⟩
end Go.Proofs.YtdfkjgogdbeokaaGreatDoor
