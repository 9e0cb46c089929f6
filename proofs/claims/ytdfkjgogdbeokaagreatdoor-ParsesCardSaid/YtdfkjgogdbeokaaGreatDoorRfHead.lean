/-
  DERIVED. The reference's head.
-/
import Derived.Test.YtdfkjgogdbeokaaGreatDoorRfNum
namespace Go.Proofs.YtdfkjgogdbeokaaGreatDoor
open Go.RowKit
set_option linter.unusedVariables false

/-- What stages begin with. -/
def bgL : List ByteArray := [⟨#[97, 100, 100, 32]⟩, ⟨#[109, 117, 108, 32]⟩, ⟨#[101, 118, 101, 110]⟩, ⟨#[105, 110, 116, 115]⟩, ⟨#[119, 111, 114, 100, 115]⟩, ⟨#[119, 97, 118, 101, 115]⟩, ⟨#[116, 117, 114, 110]⟩, ⟨#[108, 101, 110]⟩, ⟨#[112, 97, 105, 114]⟩, ⟨#[115, 112, 105, 110, 32]⟩, ⟨#[110, 111, 114, 109]⟩, ⟨#[100, 102, 116]⟩, ⟨#[115, 117, 109, 32]⟩, ⟨#[102, 111, 108, 100, 32, 109, 97, 120]⟩, ⟨#[102, 111, 108, 100, 32, 109, 105, 110]⟩, ⟨#[102, 111, 108, 100, 32, 115, 117, 109]⟩, ⟨#[115, 111, 114, 116]⟩, ⟨#[99, 111, 117, 110, 116]⟩, ⟨#[116, 97, 107, 101, 32]⟩, ⟨#[115, 107, 105, 112, 32]⟩, ⟨#[116, 119, 105, 99, 101]⟩, ⟨#[98, 111, 116, 104, 40]⟩, ⟨#[112, 97, 114, 32]⟩]
def bgO : Obj := .cells (bgL.map Value.string).toArray 9
theorem bgO_cell (w : World) (i : Nat) (h : i < bgL.length) : (w.alloc bgO).cell? ⟨w.heap.size, i, none⟩ = some (.string bgL[i]) := by
  unfold bgO
  rw [World.cell?_alloc_new]
  simp [h]

set_option maxRecDepth 100000 in
theorem begins_any (w : World) :
    Calls Tryz.prog 111 #[] w fun e w' => e = .returned (.slice (some ⟨w.heap.size, 0, none⟩) 23 23) ∧ w' = w.alloc bgO := by
  go_enter Tryz.func111, Tryz.ntmps111
  go_wp2
  go_ret
  exact ⟨rfl, rfl⟩

/-- Is what has been read a beginning? Does one go on with the byte at the place? -/
def hitB (s : ByteArray) (fr p : Nat) : Bool := bgL.any (fun l => l.toList == (s.extract fr p).toList)
def goesB (s : ByteArray) (fr p : Nat) (l : ByteArray) : Bool := decide (p - fr < l.size) && ((l.extract 0 (p - fr)).toList == (s.extract fr p).toList && (decide (p < s.size) && (l.data[p - fr]? == s.data[p]?)))
def nextB (s : ByteArray) (fr p : Nat) : Bool := bgL.any (goesB s fr p)
theorem next_lt {s : ByteArray} {fr p : Nat} (h : nextB s fr p = true) : p < s.size := by
  unfold nextB at h
  rw [List.any_eq_true] at h
  obtain ⟨l, _, hl⟩ := h
  unfold goesB at hl
  simp only [Bool.and_eq_true, decide_eq_true_eq] at hl
  exact hl.2.2.1
/-- A head's reading: is there one?, and the place. -/
def hdGo (s : ByteArray) (fr : Nat) : Nat → Nat → Bool × Nat
  | 0, p => (hitB s fr p, p)
  | f + 1, p => if hitB s fr p then (true, p) else if nextB s fr p then hdGo s fr f (p + 1) else (false, p)
def hdAt (s : ByteArray) (fr p : Nat) : Bool × Nat := hdGo s fr (s.size - p) p
theorem hd_hit {s : ByteArray} {fr p : Nat} (h : hitB s fr p = true) : hdAt s fr p = (true, p) := by
  unfold hdAt
  generalize s.size - p = f
  cases f <;> simp [hdGo, h]
theorem hd_stop {s : ByteArray} {fr p : Nat} (h : hitB s fr p = false) (k : nextB s fr p = false) : hdAt s fr p = (false, p) := by
  unfold hdAt
  generalize s.size - p = f
  cases f <;> simp [hdGo, h, k]
theorem hd_next {s : ByteArray} {fr p : Nat} (h : hitB s fr p = false) (k : nextB s fr p = true) : hdAt s fr p = hdAt s fr (p + 1) := by
  have hp := next_lt k
  unfold hdAt
  obtain ⟨f, hf⟩ : ∃ f, s.size - p = f + 1 := ⟨s.size - p - 1, by omega⟩
  have e : s.size - (p + 1) = f := by omega
  rw [hf, e]
  simp [hdGo, h, k]
theorem toList_inj {a b : ByteArray} (h : a.toList = b.toList) : a = b := by
  rw [ByteArray.toList_eq, ByteArray.toList_eq] at h
  exact ByteArray.ext (Array.ext' h)
/-- How far a head's loop still has to go. -/
def mOf (w : World) (b n : Nat) : Nat := match w.cell? ⟨b, 2, none⟩ with | some (.bool true) => 0 | _ => n + 1 - pOf w b
theorem mOf_bad {w : World} {b : Nat} {s : ByteArray} {p : Nat} {nv : Value} (n : Nat) (h : Rd w b s p true nv) : mOf w b n = 0 := by
  unfold mOf
  rw [h.cells.2.2.1]
theorem mOf_ok {w : World} {b : Nat} {s : ByteArray} {p : Nat} {nv : Value} (n : Nat) (h : Rd w b s p false nv) : mOf w b n = n + 1 - p := by
  unfold mOf
  rw [h.cells.2.2.1, pOf_rd h]

/-- What head leaves. -/
def HeadPost (w : World) (b : Nat) (s : ByteArray) (fr : Nat) (nv : Value) (R : Bool × Nat) (e : Ending) (w' : World) : Prop :=
  (R.1 = true → e = .returned (.string (s.extract fr R.2)) ∧ hitB s fr R.2 = true) ∧ (R.1 = false → ∃ t, e = .returned (.string t)) ∧
  Rd w' b s R.2 (!R.1) nv ∧ fr ≤ R.2 ∧ R.2 ≤ s.size ∧ w.grownBy w' (some b)

set_option maxRecDepth 100000 in
set_option maxHeartbeats 2000000 in
theorem head_any (w : World) (b : Nat) (s : ByteArray) (fr : Nat) (nv : Value) (h : Rd w b s fr false nv) (hp : fr ≤ s.size) (hs : s.size ≤ 120) :
    Calls Tryz.prog 87 #[.pointer (some ⟨b, 0, none⟩)] w fun e w' => HeadPost w b s fr nv (hdAt s fr fr) e w' := by
  have h1 : Rd (w.alloc bgO) b s fr false nv := h.of_block (Below.heap_alloc _ _ _ h.lt)
  obtain ⟨c0, c1, c2, c3, f1, f2, f3⟩ := h1.cells
  have hbg := bgO_cell w
  have hbw := h.lt
  generalize hRES : hdAt s fr fr = RES
  go_enter Tryz.func87, Tryz.ntmps87
  go_wp2_with fail
  refine (begins_any w).mono ?_
  rintro e w1 ⟨rfl, rfl⟩
  go_wp2
  go_loopw [5] (fun _ wr => ∃ (p : Nat) (bad : Bool), fr ≤ p ∧ p ≤ s.size ∧ Rd wr b s p bad nv ∧ (bad = false → hdAt s fr p = RES) ∧ (bad = true → RES = (false, p)) ∧ (w.alloc bgO).grownBy wr (some b)) (fun _ wr => mOf wr b s.size)
  case atStart => exact ⟨fr, false, by omega, hp, h1, fun _ => hRES, fun e => (by cases e), grown_refl _ _⟩
  case round =>
    obtain ⟨p, bad, hfp, hps, hrd, hok, hbd, hgr⟩ := hrel
    cases bad with
    | true =>
      have hR := hbd rfl
      subst hR
      obtain ⟨d0, d1, d2, d3, g1, g2, g3⟩ := hrd.cells
      have HG := grown_trans (grown_alloc w bgO (some b)) hgr
      clear hok hbd
      go_wp2
      go_ret
      exact ⟨fun e => (by cases e), fun _ => ⟨_, rfl⟩, hrd, hfp, hps, HG⟩
    | false =>
      have HOK : Hid (hdAt s fr p = RES) := hok rfl
      have HG := grown_trans (grown_alloc w bgO (some b)) hgr
      clear hok hbd
      obtain ⟨d0, d1, d2, d3, g1, g2, g3⟩ := hrd.cells
      have HCB : Hid (∀ i (h : i < bgL.length), wr.cell? ⟨w.heap.size, i, none⟩ = some (.string bgL[i])) := by
        show ∀ i (h : i < bgL.length), wr.cell? ⟨w.heap.size, i, none⟩ = some (.string bgL[i])
        intro i hi
        rw [← hbg i hi]
        have e := hgr.block w.heap.size (by simp) (by simp; omega)
        simp only [World.cell?, e]
      clear hbg
      go_wp2
      go_loopw [5] (fun t wr2 => ∃ (k n : Nat), k ≤ 23 ∧ t = .int .i64 k ∧ (∀ i (h : i < bgL.length), i < k → (bgL[i].toList == (s.extract fr p).toList) = false) ∧ wr2 = wr.drewN n) (fun t _ => 23 - (intOf t).toNat)
      case atStart => exact ⟨0, 0, by omega, rfl, fun i _ hi => by omega, rfl⟩
      case round =>
        obtain ⟨k, n, hk, rfl, hne, rfl⟩ := hrel
        have HNE : Hid (∀ i (h : i < bgL.length), i < k → (bgL[i].toList == (s.extract fr p).toList) = false) := hne
        clear hne
        have hfpi : (fr : Int) ≤ (p : Int) := by omega
        have hpsi : (p : Int) ≤ (s.size : Int) := by omega
        by_cases hlt : k < 23
        · have hl23 : k < bgL.length := hlt
          have hck : wr.cell? ⟨w.heap.size, k, none⟩ = some (.string bgL[k]) := HCB.out k hl23
          generalize hbk : bgL[k] = bk at *
          have HBK : Hid (bgL[k] = bk) := hbk
          clear hbk
          cases hm : (bk.toList == (s.extract fr p).toList)
          · go_wp2
            go_quiet (fail)
            go_wp2
            refine ⟨⟨k + 1, _, by omega, rfl, ?_, rfl⟩, by simp [intOf]; omega⟩
            intro i hi hik
            by_cases e : i = k
            · subst e; rw [HBK.out]; exact hm
            · exact HNE.out i hi (by omega)
          · go_wp2
            go_quiet (fail)
            go_wp2
            go_ret
            have hhit : hitB s fr p = true := by
              unfold hitB
              rw [List.any_eq_true]
              exact ⟨bk, by rw [← HBK.out]; exact List.getElem_mem hl23, hm⟩
            have hR : RES = (true, p) := by rw [← HOK.out]; exact hd_hit hhit
            subst hR
            exact ⟨fun _ => ⟨by rw [← toList_inj (eq_of_beq hm)]; rfl, hhit⟩, fun e => (by cases e), hrd, hfp, hps, grown_trans HG (grown_drewN _ _ _)⟩
        · have hk3 : k = 23 := by omega
          subst hk3
          have hhit : hitB s fr p = false := by
            unfold hitB
            rw [List.any_eq_false]
            intro x hx
            obtain ⟨i, hi, rfl⟩ := List.mem_iff_getElem.mp hx
            rw [HNE.out i hi hi]; simp
          go_wp2
          go_loopw [6, 8] (fun t6 t8 wr2 => ∃ (k n : Nat), k ≤ 23 ∧ t6 = .bool ((bgL.take k).any (goesB s fr p)) ∧ t8 = .int .i64 k ∧ wr2 = wr.drewN n) (fun _ t _ => 23 - (intOf t).toNat)
          case atStart => exact ⟨0, _, by omega, rfl, rfl, rfl⟩
          case round =>
            obtain ⟨k, n, hk, rfl, rfl, rfl⟩ := hrel
            by_cases hlt : k < 23
            · have hl23 : k < bgL.length := hlt
              have hck : wr.cell? ⟨w.heap.size, k, none⟩ = some (.string bgL[k]) := HCB.out k hl23
              have hsz : ((p : Int) - (fr : Int)) = ((p - fr : Nat) : Int) := by omega
              have HTK : Hid ((bgL.take (k + 1)).any (goesB s fr p) = ((bgL.take k).any (goesB s fr p) || goesB s fr p bgL[k])) := by
                show _ = _
                rw [List.take_add_one, List.any_append, List.getElem?_eq_getElem hl23]
                simp
              generalize hbk : bgL[k] = bk at *
              clear hbk
              by_cases a1 : p - fr < bk.size
              · have a1i : ((p : Int) - (fr : Int)) < (bk.size : Int) := by omega
                have a1j : ((p : Int) - (fr : Int)) ≤ (bk.size : Int) := by omega
                have a1k : 0 ≤ ((p : Int) - (fr : Int)) := by omega
                cases a2 : ((bk.extract 0 (p - fr)).toList == (s.extract fr p).toList)
                · have hgb : goesB s fr p bk = false := by unfold goesB; simp [a2]
                  go_wp2
                  go_quiet (fail)
                  go_wp2
                  exact ⟨⟨k + 1, _, by omega, by rw [HTK.out, hgb]; simp, rfl, rfl⟩, by simp [intOf]; omega⟩
                · by_cases a3 : p < s.size
                  · have a3i : (p : Int) < (s.size : Int) := by omega
                    have hgb : goesB s fr p bk = (bk[p - fr] == s[p]) := by
                      have e1 : bk.data[p - fr]? = some bk[p - fr] := by
                        rw [Array.getElem?_eq_getElem (by simpa using a1)]
                        rfl
                      have e2 : s.data[p]? = some s[p] := by
                        rw [Array.getElem?_eq_getElem (by simpa using a3)]
                        rfl
                      unfold goesB
                      rw [a2, e1, e2]
                      simp [a1, a3]
                    have hbb := byte_beq bk[p - fr] s[p]
                    cases a4 : (bk[p - fr] == s[p])
                    · rw [a4] at hbb hgb
                      go_wp2
                      go_quiet (fail)
                      go_wp2
                      exact ⟨⟨k + 1, _, by omega, by rw [HTK.out, hgb]; simp, rfl, rfl⟩, by simp [intOf]; omega⟩
                    · rw [a4] at hbb hgb
                      go_wp2
                      go_quiet (fail)
                      go_wp2
                      exact ⟨⟨k + 1, _, by omega, by rw [HTK.out, hgb]; simp, rfl, rfl⟩, by simp [intOf]; omega⟩
                  · have a3i : decide ((p : Int) < (s.size : Int)) = false := by simp; omega
                    have hgb : goesB s fr p bk = false := by unfold goesB; simp [a3]
                    go_wp2
                    go_quiet (fail)
                    go_wp2
                    exact ⟨⟨k + 1, _, by omega, by rw [HTK.out, hgb]; simp, rfl, rfl⟩, by simp [intOf]; omega⟩
              · have a1i : decide (((p : Int) - (fr : Int)) < (bk.size : Int)) = false := by simp; omega
                have hgb : goesB s fr p bk = false := by unfold goesB; simp [a1]
                go_wp2
                go_quiet (fail)
                go_wp2
                exact ⟨⟨k + 1, _, by omega, by rw [HTK.out, hgb]; simp, rfl, rfl⟩, by simp [intOf]; omega⟩
            · have hk3 : k = 23 := by omega
              subst hk3
              have HNX : Hid ((bgL.take 23).any (goesB s fr p) = nextB s fr p) := rfl
              generalize hnx : (bgL.take 23).any (goesB s fr p) = nx at *
              clear hnx
              have h9 := hrd.drewN n
              have hm9 := mOf_ok s.size hrd
              cases nx with
              | true =>
                have hps9 := next_lt HNX.out.symm
                have hR : hdAt s fr (p + 1) = RES := by rw [← HOK.out]; exact (hd_next hhit HNX.out.symm).symm
                have h10 := h9.setP (p + 1)
                have hm10 := mOf_ok s.size h10
                have ecast : ((p + 1 : Nat) : Int) = (p : Int) + 1 := by omega
                rw [ecast] at h10 hm10
                go_wp2
                exact ⟨⟨p + 1, false, by omega, by omega, h10, fun _ => hR, fun e => (by cases e), grown_trans (grown_trans hgr (grown_drewN _ _ _)) (grown_set _ _ _ _)⟩, by omega⟩
              | false =>
                have hR : RES = (false, p) := by rw [← HOK.out]; exact hd_stop hhit HNX.out.symm
                have h10 := h9.setBad true
                have hm10 := mOf_bad s.size h10
                go_wp2
                exact ⟨⟨p, true, by omega, by omega, h10, fun e => (by cases e), fun _ => hR, grown_trans (grown_trans hgr (grown_drewN _ _ _)) (grown_set _ _ _ _)⟩, by omega⟩
end Go.Proofs.YtdfkjgogdbeokaaGreatDoor
