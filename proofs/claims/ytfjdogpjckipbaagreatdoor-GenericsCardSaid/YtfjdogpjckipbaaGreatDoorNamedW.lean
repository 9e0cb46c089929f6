/-
  DERIVED. flowlinelaw.named, at two lists of words that are one.
-/
import Derived.Test.YtfjdogpjckipbaaGreatDoorGBase
import Derived.Deep.QuietTactic
import Derived.BigQuiet
namespace Go.Proofs.YtfjdogpjckipbaaGreatDoor
open Go.RowKit

theorem Reads.one {w : World} {v : Value} {n : Nat} {cs : List Value} (h : Reads w v 1 n cs) (i : Nat) (hi : i < cs.length) :
    ∃ b o cap, v = .slice (some ⟨b, o, none⟩) n cap ∧ b < w.heap.size ∧ w.cell? ⟨b, o + i, none⟩ = some cs[i] := by
  obtain ⟨ap, cap, rfl, hl, hcell⟩ := h
  obtain ⟨b, o, rfl, hlt, hc⟩ := hcell i cs[i] (List.getElem?_eq_getElem hi)
  exact ⟨b, o, cap, rfl, hlt, hc⟩

set_option maxRecDepth 100000 in
set_option maxHeartbeats 400000 in
theorem named_same (w : World) (ss : List ByteArray) (ap aq : Option Addr) (cap caq : Nat) (hr : Reads w (.slice ap ss.length cap) 1 ss.length (ss.map Value.string)) (hq : Reads w (.slice aq ss.length caq) 1 ss.length (ss.map Value.string)) (hlen : ss.length ≤ 140737488351232) :
    Calls Tryz.prog 56 #[.slice ap ss.length cap, .slice aq ss.length caq] w fun e w' => e = .returned (.bool true) ∧ Below w.heap.size w w' := by
  go_enter Tryz.func56, Tryz.ntmps56
  go_wp2
  go_loopw [5] (fun t wr => ∃ k : Nat, k ≤ ss.length ∧ t = .int .i64 k ∧ Below w.heap.size w wr) (fun t _ => ss.length - (intOf t).toNat)
  case atStart => exact ⟨0, Nat.zero_le _, rfl, Below.refl _ _⟩
  case round =>
    obtain ⟨k, hk, rfl, hb⟩ := hrel
    by_cases hlt : k < ss.length
    · obtain ⟨b, o, cap', hv, hbl, hc⟩ := hr.one k (by simpa using hlt)
      cases hv
      obtain ⟨b', o', cap'', hv', hbl', hc'⟩ := hq.one k (by simpa using hlt)
      cases hv'
      have s0 : wr.cell? ⟨b, o + k, none⟩ = some (.string ss[k]) := by rw [hb.cell (p := ⟨b, o + k, none⟩) hbl, hc]; simp
      have s1 : wr.cell? ⟨b', o' + k, none⟩ = some (.string ss[k]) := by rw [hb.cell (p := ⟨b', o' + k, none⟩) hbl', hc']; simp
      clear hc hc'
      go_wp2
      go_quiet (fail)
      go_wp2
      exact ⟨⟨k + 1, by omega, by go_num, below_drewN hb _⟩, by simp [intOf]; omega⟩
    · obtain rfl : k = ss.length := by omega
      go_wp2
      go_ret
      exact ⟨rfl, hb⟩
end Go.Proofs.YtfjdogpjckipbaaGreatDoor
