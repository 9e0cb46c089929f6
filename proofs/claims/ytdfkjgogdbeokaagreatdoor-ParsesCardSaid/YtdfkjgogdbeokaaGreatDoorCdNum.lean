/-
  DERIVED. The code's reader: number.
-/
import Derived.Test.YtdfkjgogdbeokaaGreatDoorCdSkip
import Derived.Test.YtdfkjgogdbeokaaGreatDoorRfNum
namespace Go.Proofs.YtdfkjgogdbeokaaGreatDoor
open Go.RowKit
set_option linter.unusedVariables false

def cnGo (s : ByteArray) (low high sg : Int) : Nat → Int → Nat → Nat → Int × Nat × Nat
  | 0, k, d, p => (k, d, p)
  | f + 1, k, d, p => if dg s p < 0 ∨ (k = 0 ∧ (0 < d ∨ (sg < 0 ∧ k * 10 + sg * dg s p = 0))) ∨ k * 10 + sg * dg s p < low ∨ high < k * 10 + sg * dg s p then (k, d, p) else cnGo s low high sg f (k * 10 + sg * dg s p) (d + 1) (p + 1)
def cnAt (s : ByteArray) (low high sg : Int) (k : Int) (d p : Nat) : Int × Nat × Nat := cnGo s low high sg (s.size - p) k d p
theorem cn_stop {s : ByteArray} {low high sg k : Int} {d p : Nat} (h : dg s p < 0 ∨ (k = 0 ∧ (0 < d ∨ (sg < 0 ∧ k * 10 + sg * dg s p = 0))) ∨ k * 10 + sg * dg s p < low ∨ high < k * 10 + sg * dg s p) : cnAt s low high sg k d p = (k, d, p) := by
  unfold cnAt
  generalize s.size - p = f
  cases f with
  | zero => rfl
  | succ f => simp only [cnGo]; rw [if_pos h]
theorem cn_go {s : ByteArray} {low high sg k : Int} {d p : Nat} (h : ¬ (dg s p < 0 ∨ (k = 0 ∧ (0 < d ∨ (sg < 0 ∧ k * 10 + sg * dg s p = 0))) ∨ k * 10 + sg * dg s p < low ∨ high < k * 10 + sg * dg s p)) : cnAt s low high sg k d p = cnAt s low high sg (k * 10 + sg * dg s p) (d + 1) (p + 1) := by
  have hp : p < s.size := dg_lt (by omega)
  unfold cnAt
  obtain ⟨f, hf⟩ : ∃ f, s.size - p = f + 1 := ⟨s.size - p - 1, by omega⟩
  have e : s.size - (p + 1) = f := by omega
  rw [hf, e]
  simp only [cnGo]
  rw [if_neg h]
theorem pOf_cr {w : World} {b : Nat} {s : ByteArray} {p k : Nat} (h : Cr w b s p k) : pOf w b = p := by
  unfold pOf
  rw [h.cells.2.1]
  simp
/-- What number leaves. -/
def CnPost (w : World) (b : Nat) (s : ByteArray) (kst : Nat) (R : Int × Nat × Nat) (e : Ending) (w' : World) : Prop :=
  e = .returned (.tuple #[.int .i64 R.1, .bool (decide (0 < R.2.1))]) ∧ Cr w' b s R.2.2 kst ∧ w.grownBy w' (some b)

set_option maxRecDepth 100000 in
set_option maxHeartbeats 4000000 in
theorem cnC (w : World) (b : Nat) (s : ByteArray) (p kst : Nat) (low high : Int) (h : Cr w b s p kst) (hs : s.size ≤ 120) (hp : p ≤ s.size) (hlo : -999 ≤ low) (hlo2 : low ≤ 1) (hhi : 1 ≤ high) (hhi2 : high ≤ 999) (hneg : ¬ low < 0) :
    Calls Tryz.prog 122 #[.pointer (some ⟨b, 0, none⟩), .int .i64 low, .int .i64 high] w fun e w' => CnPost w b s kst (cnAt s low high 1 0 0 p) e w' := by
  generalize hRES : cnAt s low high 1 0 0 p = RES
  go_enter Tryz.func122, Tryz.ntmps122
  go_wp2
  go_loopw [9, 10] (fun t9 t10 wr => ∃ (k : Int) (d r : Nat), t9 = .int .i64 k ∧ t10 = .int .i64 d ∧ -999 ≤ k ∧ k ≤ 999 ∧ r ≤ s.size ∧ d ≤ r ∧ Cr wr b s r kst ∧ cnAt s low high 1 k d r = RES ∧ w.grownBy wr (some b)) (fun _ _ wr => s.size - pOf wr b)
  case atStart => exact ⟨0, 0, p, rfl, rfl, by omega, by omega, hp, by omega, h, hRES, grown_refl _ _⟩
  case round =>
    obtain ⟨k, d, r, rfl, rfl, hk1, hk2, hr, hdr, hcr, hres, hgr⟩ := hrel
    have HR : Hid (cnAt s low high 1 k d r = RES) := hres
    clear hres hRES
    obtain ⟨c0, c1, c2, f1, f2⟩ := hcr.cells
    by_cases hrs : r < s.size
    · have hri : (r : Int) < (s.size : Int) := by omega
      have hdg := dg_in hrs
      have hb := s[r].toNat_lt
      have HP : Hid (pOf wr b = r) := pOf_cr hcr
      generalize hc : s[r].toNat = cc at *
      have HDG : Hid (dg s r = if 48 ≤ cc ∧ cc ≤ 57 then (cc : Int) - 48 else -1) := hdg
      clear hdg
      by_cases a1 : cc < 48
      · have a1i : decide ((cc : Int) < 48) = true := by simp; omega
        have a1j : (cc : Int) < 48 := by omega
        go_wp2
        go_quiet (fail)
        go_wp2
        go_quiet (fail)
        go_wp2
        go_ret2
        have hR : RES = (k, d, r) := by rw [← HR.out]; exact cn_stop (Or.inl (by rw [HDG.out, if_neg (by omega)]; omega))
        subst hR
        exact ⟨by first | rfl | (simp; done) | (simp; omega), hcr, hgr.trans (grown_drewN _ _ _)⟩
      · have a1i : decide ((cc : Int) < 48) = false := by simp; omega
        have a1j : ¬ (cc : Int) < 48 := by omega
        by_cases a2 : 57 < cc
        · have a2j : (57 : Int) < (cc : Int) := by omega
          go_wp2
          go_quiet (fail)
          go_wp2
          go_quiet (fail)
          go_wp2
          go_ret2
          have hR : RES = (k, d, r) := by rw [← HR.out]; exact cn_stop (Or.inl (by rw [HDG.out, if_neg (by omega)]; omega))
          subst hR
          exact ⟨by first | rfl | (simp; done) | (simp; omega), hcr, hgr.trans (grown_drewN _ _ _)⟩
        · have a2j : ¬ (57 : Int) < (cc : Int) := by omega
          have HD : Hid (dg s r = (cc : Int) - 48) := by show _ = _; rw [HDG.out, if_pos (by omega)]
          by_cases hk0 : k = 0
          · subst hk0
            by_cases hd0 : 0 < d
            · have hdi : decide (0 < d) = true := by simpa using hd0
              go_wp2
              go_quiet (fail)
              go_wp2
              go_quiet (fail)
              go_wp2
              go_ret2
              have hR : RES = (0, d, r) := by rw [← HR.out]; exact cn_stop (by rw [HD.out]; omega)
              subst hR
              exact ⟨by first | rfl | (simp; done) | (simp; omega), hcr, hgr.trans (grown_drewN _ _ _)⟩
            · have hdi : decide (0 < d) = false := by simpa using hd0
              by_cases n1 : ((cc : Int) - 48) < low
              · go_wp2
                go_quiet (fail)
                go_wp2
                go_quiet (fail)
                go_wp2
                go_ret2
                have hR : RES = (0, d, r) := by rw [← HR.out]; exact cn_stop (by rw [HD.out]; omega)
                subst hR
                exact ⟨by first | rfl | (simp; done) | (simp; omega), hcr, hgr.trans (grown_drewN _ _ _)⟩
              · by_cases n2 : high < ((cc : Int) - 48)
                · go_wp2
                  go_quiet (fail)
                  go_wp2
                  go_quiet (fail)
                  go_wp2
                  go_ret2
                  have hR : RES = (0, d, r) := by rw [← HR.out]; exact cn_stop (by rw [HD.out]; omega)
                  subst hR
                  exact ⟨by first | rfl | (simp; done) | (simp; omega), hcr, hgr.trans (grown_drewN _ _ _)⟩
                · go_wp2
                  go_quiet (fail)
                  go_wp2
                  go_quiet (fail)
                  go_wp2
                  have hX : 0 * 10 + 1 * dg s r = ((cc : Int) - 48) := by rw [HD.out]; omega
                  have hq : ∀ m, Cr ((wr.drewN m).setCell ⟨b, 1, none⟩ (.int .i64 ((r : Int) + 1))) b s (r + 1) kst := fun m => Cr.setP (w := wr.drewN m) hcr (r + 1)
                  have hm := fun m => pOf_cr (hq m)
                  have hcg := cn_go (s := s) (low := low) (high := high) (sg := 1) (k := 0) (d := d) (p := r) (by rw [HD.out]; omega)
                  rw [hX] at hcg
                  exact ⟨⟨((cc : Int) - 48), d + 1, r + 1, rfl, by simp, by omega, by omega, by omega, by omega, hq _, by rw [← hcg]; exact HR.out, hgr.trans ((grown_drewN _ _ _).trans (grown_set _ _ _ _))⟩, by rw [HP.out, hm]; omega⟩
          · have hk0b : (k == 0) = false := by simpa using hk0
            by_cases n1 : (k * 10 + ((cc : Int) - 48)) < low
            · go_wp2
              go_quiet (fail)
              go_wp2
              go_quiet (fail)
              go_wp2
              go_ret2
              have hR : RES = (k, d, r) := by rw [← HR.out]; exact cn_stop (by rw [HD.out]; omega)
              subst hR
              exact ⟨by first | rfl | (simp; done) | (simp; omega), hcr, hgr.trans (grown_drewN _ _ _)⟩
            · by_cases n2 : high < (k * 10 + ((cc : Int) - 48))
              · go_wp2
                go_quiet (fail)
                go_wp2
                go_quiet (fail)
                go_wp2
                go_ret2
                have hR : RES = (k, d, r) := by rw [← HR.out]; exact cn_stop (by rw [HD.out]; omega)
                subst hR
                exact ⟨by first | rfl | (simp; done) | (simp; omega), hcr, hgr.trans (grown_drewN _ _ _)⟩
              · go_wp2
                go_quiet (fail)
                go_wp2
                go_quiet (fail)
                go_wp2
                have hX : k * 10 + 1 * dg s r = (k * 10 + ((cc : Int) - 48)) := by rw [HD.out]; omega
                have hq : ∀ m, Cr ((wr.drewN m).setCell ⟨b, 1, none⟩ (.int .i64 ((r : Int) + 1))) b s (r + 1) kst := fun m => Cr.setP (w := wr.drewN m) hcr (r + 1)
                have hm := fun m => pOf_cr (hq m)
                have hcg := cn_go (s := s) (low := low) (high := high) (sg := 1) (k := k) (d := d) (p := r) (by rw [HD.out]; omega)
                rw [hX] at hcg
                exact ⟨⟨(k * 10 + ((cc : Int) - 48)), d + 1, r + 1, rfl, by simp, by omega, by omega, by omega, by omega, hq _, by rw [← hcg]; exact HR.out, hgr.trans ((grown_drewN _ _ _).trans (grown_set _ _ _ _))⟩, by rw [HP.out, hm]; omega⟩
    · have hri : ¬ (r : Int) < (s.size : Int) := by omega
      have hrj : decide ((r : Int) < (s.size : Int)) = false := by simp; omega
      go_wp2
      go_quiet (fail)
      go_wp2
      go_ret2
      have hR : RES = (k, d, r) := by rw [← HR.out]; exact cn_stop (Or.inl (by rw [dg_out hrs]; omega))
      subst hR
      exact ⟨by first | rfl | (simp; done) | (simp; omega), hcr, hgr.trans (grown_drewN _ _ _)⟩

set_option maxRecDepth 100000 in
set_option maxHeartbeats 4000000 in
theorem cnB (w : World) (b : Nat) (s : ByteArray) (p kst : Nat) (low high : Int) (h : Cr w b s p kst) (hs : s.size ≤ 120) (hp : p ≤ s.size) (hlo : -999 ≤ low) (hlo2 : low ≤ 1) (hhi : 1 ≤ high) (hhi2 : high ≤ 999) (hneg : low < 0) (hat : isAt s p 45 = false) :
    Calls Tryz.prog 122 #[.pointer (some ⟨b, 0, none⟩), .int .i64 low, .int .i64 high] w fun e w' => CnPost w b s kst (cnAt s low high 1 0 0 p) e w' := by
  generalize hRES : cnAt s low high 1 0 0 p = RES
  go_enter Tryz.func122, Tryz.ntmps122
  go_wp2_with fail
  refine (skip_any w b s p kst 45 45 rfl h hp hs).mono ?_
  rw [hat]
  rintro e w1 ⟨rfl, h1, hg1⟩
  have e1 : skipS s 45 p = p := by unfold skipS; rw [hat]; rfl
  rw [e1] at h1
  go_wp2
  go_loopw [9, 10] (fun t9 t10 wr => ∃ (k : Int) (d r : Nat), t9 = .int .i64 k ∧ t10 = .int .i64 d ∧ -999 ≤ k ∧ k ≤ 999 ∧ r ≤ s.size ∧ d ≤ r ∧ Cr wr b s r kst ∧ cnAt s low high 1 k d r = RES ∧ w.grownBy wr (some b)) (fun _ _ wr => s.size - pOf wr b)
  case atStart => exact ⟨0, 0, p, rfl, rfl, by omega, by omega, hp, by omega, h1, hRES, hg1⟩
  case round =>
    obtain ⟨k, d, r, rfl, rfl, hk1, hk2, hr, hdr, hcr, hres, hgr⟩ := hrel
    have HR : Hid (cnAt s low high 1 k d r = RES) := hres
    clear hres hRES
    obtain ⟨c0, c1, c2, f1, f2⟩ := hcr.cells
    by_cases hrs : r < s.size
    · have hri : (r : Int) < (s.size : Int) := by omega
      have hdg := dg_in hrs
      have hb := s[r].toNat_lt
      have HP : Hid (pOf wr b = r) := pOf_cr hcr
      generalize hc : s[r].toNat = cc at *
      have HDG : Hid (dg s r = if 48 ≤ cc ∧ cc ≤ 57 then (cc : Int) - 48 else -1) := hdg
      clear hdg
      by_cases a1 : cc < 48
      · have a1i : decide ((cc : Int) < 48) = true := by simp; omega
        have a1j : (cc : Int) < 48 := by omega
        go_wp2
        go_quiet (fail)
        go_wp2
        go_quiet (fail)
        go_wp2
        go_ret2
        have hR : RES = (k, d, r) := by rw [← HR.out]; exact cn_stop (Or.inl (by rw [HDG.out, if_neg (by omega)]; omega))
        subst hR
        exact ⟨by first | rfl | (simp; done) | (simp; omega), hcr, hgr.trans (grown_drewN _ _ _)⟩
      · have a1i : decide ((cc : Int) < 48) = false := by simp; omega
        have a1j : ¬ (cc : Int) < 48 := by omega
        by_cases a2 : 57 < cc
        · have a2j : (57 : Int) < (cc : Int) := by omega
          go_wp2
          go_quiet (fail)
          go_wp2
          go_quiet (fail)
          go_wp2
          go_ret2
          have hR : RES = (k, d, r) := by rw [← HR.out]; exact cn_stop (Or.inl (by rw [HDG.out, if_neg (by omega)]; omega))
          subst hR
          exact ⟨by first | rfl | (simp; done) | (simp; omega), hcr, hgr.trans (grown_drewN _ _ _)⟩
        · have a2j : ¬ (57 : Int) < (cc : Int) := by omega
          have HD : Hid (dg s r = (cc : Int) - 48) := by show _ = _; rw [HDG.out, if_pos (by omega)]
          by_cases hk0 : k = 0
          · subst hk0
            by_cases hd0 : 0 < d
            · have hdi : decide (0 < d) = true := by simpa using hd0
              go_wp2
              go_quiet (fail)
              go_wp2
              go_quiet (fail)
              go_wp2
              go_ret2
              have hR : RES = (0, d, r) := by rw [← HR.out]; exact cn_stop (by rw [HD.out]; omega)
              subst hR
              exact ⟨by first | rfl | (simp; done) | (simp; omega), hcr, hgr.trans (grown_drewN _ _ _)⟩
            · have hdi : decide (0 < d) = false := by simpa using hd0
              by_cases n1 : ((cc : Int) - 48) < low
              · exfalso; omega
              · by_cases n2 : high < ((cc : Int) - 48)
                · go_wp2
                  go_quiet (fail)
                  go_wp2
                  go_quiet (fail)
                  go_wp2
                  go_ret2
                  have hR : RES = (0, d, r) := by rw [← HR.out]; exact cn_stop (by rw [HD.out]; omega)
                  subst hR
                  exact ⟨by first | rfl | (simp; done) | (simp; omega), hcr, hgr.trans (grown_drewN _ _ _)⟩
                · go_wp2
                  go_quiet (fail)
                  go_wp2
                  go_quiet (fail)
                  go_wp2
                  have hX : 0 * 10 + 1 * dg s r = ((cc : Int) - 48) := by rw [HD.out]; omega
                  have hq : ∀ m, Cr ((wr.drewN m).setCell ⟨b, 1, none⟩ (.int .i64 ((r : Int) + 1))) b s (r + 1) kst := fun m => Cr.setP (w := wr.drewN m) hcr (r + 1)
                  have hm := fun m => pOf_cr (hq m)
                  have hcg := cn_go (s := s) (low := low) (high := high) (sg := 1) (k := 0) (d := d) (p := r) (by rw [HD.out]; omega)
                  rw [hX] at hcg
                  exact ⟨⟨((cc : Int) - 48), d + 1, r + 1, rfl, by simp, by omega, by omega, by omega, by omega, hq _, by rw [← hcg]; exact HR.out, hgr.trans ((grown_drewN _ _ _).trans (grown_set _ _ _ _))⟩, by rw [HP.out, hm]; omega⟩
          · have hk0b : (k == 0) = false := by simpa using hk0
            by_cases n1 : (k * 10 + ((cc : Int) - 48)) < low
            · go_wp2
              go_quiet (fail)
              go_wp2
              go_quiet (fail)
              go_wp2
              go_ret2
              have hR : RES = (k, d, r) := by rw [← HR.out]; exact cn_stop (by rw [HD.out]; omega)
              subst hR
              exact ⟨by first | rfl | (simp; done) | (simp; omega), hcr, hgr.trans (grown_drewN _ _ _)⟩
            · by_cases n2 : high < (k * 10 + ((cc : Int) - 48))
              · go_wp2
                go_quiet (fail)
                go_wp2
                go_quiet (fail)
                go_wp2
                go_ret2
                have hR : RES = (k, d, r) := by rw [← HR.out]; exact cn_stop (by rw [HD.out]; omega)
                subst hR
                exact ⟨by first | rfl | (simp; done) | (simp; omega), hcr, hgr.trans (grown_drewN _ _ _)⟩
              · go_wp2
                go_quiet (fail)
                go_wp2
                go_quiet (fail)
                go_wp2
                have hX : k * 10 + 1 * dg s r = (k * 10 + ((cc : Int) - 48)) := by rw [HD.out]; omega
                have hq : ∀ m, Cr ((wr.drewN m).setCell ⟨b, 1, none⟩ (.int .i64 ((r : Int) + 1))) b s (r + 1) kst := fun m => Cr.setP (w := wr.drewN m) hcr (r + 1)
                have hm := fun m => pOf_cr (hq m)
                have hcg := cn_go (s := s) (low := low) (high := high) (sg := 1) (k := k) (d := d) (p := r) (by rw [HD.out]; omega)
                rw [hX] at hcg
                exact ⟨⟨(k * 10 + ((cc : Int) - 48)), d + 1, r + 1, rfl, by simp, by omega, by omega, by omega, by omega, hq _, by rw [← hcg]; exact HR.out, hgr.trans ((grown_drewN _ _ _).trans (grown_set _ _ _ _))⟩, by rw [HP.out, hm]; omega⟩
    · have hri : ¬ (r : Int) < (s.size : Int) := by omega
      have hrj : decide ((r : Int) < (s.size : Int)) = false := by simp; omega
      go_wp2
      go_quiet (fail)
      go_wp2
      go_ret2
      have hR : RES = (k, d, r) := by rw [← HR.out]; exact cn_stop (Or.inl (by rw [dg_out hrs]; omega))
      subst hR
      exact ⟨by first | rfl | (simp; done) | (simp; omega), hcr, hgr.trans (grown_drewN _ _ _)⟩

set_option maxRecDepth 100000 in
set_option maxHeartbeats 4000000 in
theorem cnA (w : World) (b : Nat) (s : ByteArray) (p kst : Nat) (low high : Int) (h : Cr w b s p kst) (hs : s.size ≤ 120) (hp : p ≤ s.size) (hlo : -999 ≤ low) (hlo2 : low ≤ 1) (hhi : 1 ≤ high) (hhi2 : high ≤ 999) (hneg : low < 0) (hat : isAt s p 45 = true) :
    Calls Tryz.prog 122 #[.pointer (some ⟨b, 0, none⟩), .int .i64 low, .int .i64 high] w fun e w' => CnPost w b s kst (cnAt s low high (-1) 0 0 (p + 1)) e w' := by
  generalize hRES : cnAt s low high (-1) 0 0 (p + 1) = RES
  have hps : p < s.size := by
    rcases Nat.lt_or_ge p s.size with h1 | h1
    · exact h1
    · rw [isAt_ge 45 h1] at hat; cases hat
  go_enter Tryz.func122, Tryz.ntmps122
  go_wp2_with fail
  refine (skip_any w b s p kst 45 45 rfl h hp hs).mono ?_
  rw [hat]
  rintro e w1 ⟨rfl, h1, hg1⟩
  have e1 : skipS s 45 p = p + 1 := by unfold skipS; rw [hat]; rfl
  rw [e1] at h1
  go_wp2
  go_loopw [9, 10] (fun t9 t10 wr => ∃ (k : Int) (d r : Nat), t9 = .int .i64 k ∧ t10 = .int .i64 d ∧ -999 ≤ k ∧ k ≤ 999 ∧ r ≤ s.size ∧ d ≤ r ∧ Cr wr b s r kst ∧ cnAt s low high (-1) k d r = RES ∧ w.grownBy wr (some b)) (fun _ _ wr => s.size - pOf wr b)
  case atStart => exact ⟨0, 0, p + 1, rfl, rfl, by omega, by omega, by omega, by omega, h1, hRES, hg1⟩
  case round =>
    obtain ⟨k, d, r, rfl, rfl, hk1, hk2, hr, hdr, hcr, hres, hgr⟩ := hrel
    have HR : Hid (cnAt s low high (-1) k d r = RES) := hres
    clear hres hRES
    obtain ⟨c0, c1, c2, f1, f2⟩ := hcr.cells
    by_cases hrs : r < s.size
    · have hri : (r : Int) < (s.size : Int) := by omega
      have hdg := dg_in hrs
      have hb := s[r].toNat_lt
      have HP : Hid (pOf wr b = r) := pOf_cr hcr
      generalize hc : s[r].toNat = cc at *
      have HDG : Hid (dg s r = if 48 ≤ cc ∧ cc ≤ 57 then (cc : Int) - 48 else -1) := hdg
      clear hdg
      by_cases a1 : cc < 48
      · have a1i : decide ((cc : Int) < 48) = true := by simp; omega
        have a1j : (cc : Int) < 48 := by omega
        go_wp2
        go_quiet (fail)
        go_wp2
        go_quiet (fail)
        go_wp2
        go_ret2
        have hR : RES = (k, d, r) := by rw [← HR.out]; exact cn_stop (Or.inl (by rw [HDG.out, if_neg (by omega)]; omega))
        subst hR
        exact ⟨by first | rfl | (simp; done) | (simp; omega), hcr, hgr.trans (grown_drewN _ _ _)⟩
      · have a1i : decide ((cc : Int) < 48) = false := by simp; omega
        have a1j : ¬ (cc : Int) < 48 := by omega
        by_cases a2 : 57 < cc
        · have a2j : (57 : Int) < (cc : Int) := by omega
          go_wp2
          go_quiet (fail)
          go_wp2
          go_quiet (fail)
          go_wp2
          go_ret2
          have hR : RES = (k, d, r) := by rw [← HR.out]; exact cn_stop (Or.inl (by rw [HDG.out, if_neg (by omega)]; omega))
          subst hR
          exact ⟨by first | rfl | (simp; done) | (simp; omega), hcr, hgr.trans (grown_drewN _ _ _)⟩
        · have a2j : ¬ (57 : Int) < (cc : Int) := by omega
          have HD : Hid (dg s r = (cc : Int) - 48) := by show _ = _; rw [HDG.out, if_pos (by omega)]
          by_cases hk0 : k = 0
          · subst hk0
            by_cases hd0 : 0 < d
            · have hdi : decide (0 < d) = true := by simpa using hd0
              go_wp2
              go_quiet (fail)
              go_wp2
              go_quiet (fail)
              go_wp2
              go_ret2
              have hR : RES = (0, d, r) := by rw [← HR.out]; exact cn_stop (by rw [HD.out]; omega)
              subst hR
              exact ⟨by first | rfl | (simp; done) | (simp; omega), hcr, hgr.trans (grown_drewN _ _ _)⟩
            · have hdi : decide (0 < d) = false := by simpa using hd0
              by_cases h48 : cc = 48
              · subst h48
                go_wp2
                go_quiet (fail)
                go_wp2
                go_quiet (fail)
                go_wp2
                go_ret2
                have hR : RES = (0, d, r) := by rw [← HR.out]; exact cn_stop (by rw [HD.out]; omega)
                subst hR
                exact ⟨by first | rfl | (simp; done) | (simp; omega), hcr, hgr.trans (grown_drewN _ _ _)⟩
              · have h48b : ((-((cc : Int) - 48)) == 0) = false := by simp; omega
                by_cases n1 : (-((cc : Int) - 48)) < low
                · go_wp2
                  go_quiet (fail)
                  go_wp2
                  go_quiet (fail)
                  go_wp2
                  go_ret2
                  have hR : RES = (0, d, r) := by rw [← HR.out]; exact cn_stop (by rw [HD.out]; omega)
                  subst hR
                  exact ⟨by first | rfl | (simp; done) | (simp; omega), hcr, hgr.trans (grown_drewN _ _ _)⟩
                · by_cases n2 : high < (-((cc : Int) - 48))
                  · exfalso; omega
                  · go_wp2
                    go_quiet (fail)
                    go_wp2
                    go_quiet (fail)
                    go_wp2
                    have hX : 0 * 10 + (-1) * dg s r = (-((cc : Int) - 48)) := by rw [HD.out]; omega
                    have hq : ∀ m, Cr ((wr.drewN m).setCell ⟨b, 1, none⟩ (.int .i64 ((r : Int) + 1))) b s (r + 1) kst := fun m => Cr.setP (w := wr.drewN m) hcr (r + 1)
                    have hm := fun m => pOf_cr (hq m)
                    have hcg := cn_go (s := s) (low := low) (high := high) (sg := (-1)) (k := 0) (d := d) (p := r) (by rw [HD.out]; omega)
                    rw [hX] at hcg
                    exact ⟨⟨(-((cc : Int) - 48)), d + 1, r + 1, rfl, by simp, by omega, by omega, by omega, by omega, hq _, by rw [← hcg]; exact HR.out, hgr.trans ((grown_drewN _ _ _).trans (grown_set _ _ _ _))⟩, by rw [HP.out, hm]; omega⟩
          · have hk0b : (k == 0) = false := by simpa using hk0
            by_cases n1 : (k * 10 + -((cc : Int) - 48)) < low
            · go_wp2
              go_quiet (fail)
              go_wp2
              go_quiet (fail)
              go_wp2
              go_ret2
              have hR : RES = (k, d, r) := by rw [← HR.out]; exact cn_stop (by rw [HD.out]; omega)
              subst hR
              exact ⟨by first | rfl | (simp; done) | (simp; omega), hcr, hgr.trans (grown_drewN _ _ _)⟩
            · by_cases n2 : high < (k * 10 + -((cc : Int) - 48))
              · go_wp2
                go_quiet (fail)
                go_wp2
                go_quiet (fail)
                go_wp2
                go_ret2
                have hR : RES = (k, d, r) := by rw [← HR.out]; exact cn_stop (by rw [HD.out]; omega)
                subst hR
                exact ⟨by first | rfl | (simp; done) | (simp; omega), hcr, hgr.trans (grown_drewN _ _ _)⟩
              · go_wp2
                go_quiet (fail)
                go_wp2
                go_quiet (fail)
                go_wp2
                have hX : k * 10 + (-1) * dg s r = (k * 10 + -((cc : Int) - 48)) := by rw [HD.out]; omega
                have hq : ∀ m, Cr ((wr.drewN m).setCell ⟨b, 1, none⟩ (.int .i64 ((r : Int) + 1))) b s (r + 1) kst := fun m => Cr.setP (w := wr.drewN m) hcr (r + 1)
                have hm := fun m => pOf_cr (hq m)
                have hcg := cn_go (s := s) (low := low) (high := high) (sg := (-1)) (k := k) (d := d) (p := r) (by rw [HD.out]; omega)
                rw [hX] at hcg
                exact ⟨⟨(k * 10 + -((cc : Int) - 48)), d + 1, r + 1, rfl, by simp, by omega, by omega, by omega, by omega, hq _, by rw [← hcg]; exact HR.out, hgr.trans ((grown_drewN _ _ _).trans (grown_set _ _ _ _))⟩, by rw [HP.out, hm]; omega⟩
    · have hri : ¬ (r : Int) < (s.size : Int) := by omega
      have hrj : decide ((r : Int) < (s.size : Int)) = false := by simp; omega
      go_wp2
      go_quiet (fail)
      go_wp2
      go_ret2
      have hR : RES = (k, d, r) := by rw [← HR.out]; exact cn_stop (Or.inl (by rw [dg_out hrs]; omega))
      subst hR
      exact ⟨by first | rfl | (simp; done) | (simp; omega), hcr, hgr.trans (grown_drewN _ _ _)⟩
end Go.Proofs.YtdfkjgogdbeokaaGreatDoor
