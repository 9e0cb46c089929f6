/-
  DERIVED. plain.Kept: flow.Keep over words, those that are longer than a number.
-/
import Derived.Test.YtfjdogpjckipbaaGreatDoorFoldW
namespace Go.Proofs.YtfjdogpjckipbaaGreatDoor
open Go.RowKit

theorem Tryz.infoStr : (Tryz.prog.info? 9).map (fun i => (i.zero, i.size, i.bytes)) = some (some (.string ⟨#[]⟩), 1, 16) := by kernel_rfl
/-- Which words are kept. -/
def longer (n : Int) (s : ByteArray) : Bool := decide (n < (s.size : Int))

theorem ownsRow_le {w : World} {base base' : Nat} {e : TypeId} {sz n : Nat} {v : Value} {xs : List Value} (h : w.ownsRow base e sz v n xs) (hb : base' ≤ base) : w.ownsRow base' e sz v n xs := by
  obtain ⟨hl, h | ⟨g, cap, cur, hv, hg, r⟩⟩ := h
  · exact ⟨hl, Or.inl h⟩
  · exact ⟨hl, Or.inr ⟨g, cap, cur, hv, Nat.le_trans hb hg, r⟩⟩

set_option maxRecDepth 100000 in
theorem kept1 (s : ByteArray) (n : Int) (p : Addr) (w : World) (hp : w.cell? p = some (.int .i64 n)) :
    Calls Tryz.prog 93 #[.string s, .pointer (some p)] w fun e w' => e = .returned (.bool (longer n s)) ∧ w' = w := by
  go_enter Tryz.func93, Tryz.ntmps93
  go_wp2
  go_ret
  exact ⟨rfl, rfl⟩

theorem Tryz.funcNil2 (p : Addr) (w : World) : (binOp .eql 186 (.func (.func 93) #[] #[.pointer (some p)]) .nilFunc).run Tryz.prog w = .ok (.bool false) w := by kernel_rfl

theorem filter_snoc {α : Type} (p : α → Bool) (l : List α) (k : Nat) (h : k < l.length) : (l.take (k + 1)).filter p = (l.take k).filter p ++ (if p l[k] then [l[k]] else []) := by
  rw [take_snoc' l k h, List.filter_append]
  cases hp : p l[k] <;> simp [hp]
theorem filter_take_len {α : Type} (p : α → Bool) (l : List α) (k : Nat) : ((l.take k).filter p).length ≤ l.length := Nat.le_trans (List.length_filter_le _ _) (by simp; omega)

set_option maxRecDepth 100000 in
set_option maxHeartbeats 400000 in
theorem keep_any (w : World) (ss : List ByteArray) (n : Int) (p : Addr) (ap : Option Addr) (cap : Nat) (hr : Reads w (.slice ap ss.length cap) 1 ss.length (ss.map Value.string)) (hlen : ss.length * 16 ≤ 140737488351232) (hpl : p.block < w.heap.size) (hp : w.cell? p = some (.int .i64 n)) :
    Calls Tryz.prog 92 #[.slice ap ss.length cap, .func (.func 93) #[] #[.pointer (some p)]] w fun e w' => ∃ v, e = .returned v ∧ w'.ownsRow w.heap.size 9 1 v (ss.filter (longer n)).length ((ss.filter (longer n)).map Value.string) ∧ Below w.heap.size w w' := by
  obtain ⟨i0, hi, hz0, hz1, hz2⟩ := info_parts Tryz.infoStr
  have hfn := Tryz.funcNil2 p
  go_enter Tryz.func92, Tryz.ntmps92
  go_wp2
  go_loopw [5, 12] (fun v t wr => ∃ k : Nat, k ≤ ss.length ∧ t = .int .i64 k ∧ wr.ownsRow w.heap.size 9 1 v ((ss.take k).filter (longer n)).length (((ss.take k).filter (longer n)).map Value.string) ∧ Below w.heap.size w wr) (fun _ t _ => ss.length - (intOf t).toNat)
  case atStart => exact ⟨0, Nat.zero_le _, rfl, World.ownsRow_nil _ _ _ _, Below.refl _ _⟩
  case round =>
    obtain ⟨k, hk, rfl, hown, hb⟩ := hrel
    by_cases hlt : k < ss.length
    · obtain ⟨b, o, cap', hv, hbl, hc⟩ := hr.one k (by simpa using hlt)
      cases hv
      have s0 : wr.cell? ⟨b, o + k, none⟩ = some (.string ss[k]) := by rw [hb.cell (p := ⟨b, o + k, none⟩) hbl, hc]; simp
      have hpr : wr.cell? p = some (.int .i64 n) := by rw [hb.cell hpl]; exact hp
      have HS := filter_snoc (longer n) ss k hlt
      have hle := filter_take_len (longer n) ss k
      generalize hL : (ss.take k).filter (longer n) = L at *
      generalize hL' : (ss.take (k + 1)).filter (longer n) = L' at *
      have H1 : Hid ((ss.take (k + 1)).filter (longer n) = L') := hL'
      clear hc hL hL' hp
      cases hlg : longer n ss[k]
      · rw [hlg] at HS
        have H2 : Hid (L' = L) := by show L' = L; simpa using HS
        clear HS
        go_wp2_with fail
        refine (kept1 _ _ _ _ hpr).mono ?_
        rintro e w1 ⟨rfl, rfl⟩
        go_wp2
        exact ⟨⟨k + 1, by omega, by go_num, by rw [H1.out, H2.out]; exact hown, hb⟩, by simp [intOf]; omega⟩
      · rw [hlg] at HS
        have H2 : Hid (L' = L ++ [ss[k]]) := by show L' = L ++ [ss[k]]; simpa using HS
        clear HS
        go_wp2_with fail
        refine (kept1 _ _ _ _ hpr).mono ?_
        rintro e w1 ⟨rfl, rfl⟩
        go_wp2_with (refine wpList_append_own _ rfl (.tmp 19) (.tmp 21) 73 rfl w.heap.size 9 i0 _ 1 16 Tryz.underlying73 hi hz0 hz1 hz2 rfl (by decide) _ _ _ rfl (hown.alloc _) ⟨w1.heap.size, 0, none⟩ 1 1 [.string ss[k]] rfl rfl (by intro j u hj; match j, hj with | 0, hj => simp at hj; subst hj; simp [Addr.add]) (by intro u hu; simp at hu; subst hu; rfl) (by unfold maxLen; omega) (by omega) (by have := hb.size; simp; omega) ?_; intro v' w2 hown2 hg2 _)
        go_wp2
        refine ⟨⟨k + 1, by omega, by go_num, by rw [H1.out, H2.out]; simpa using hown2, ?_⟩, by simp [intOf]; omega⟩
        refine (hb.alloc hb.size _).grown hg2 (by have := hb.size; simp; omega) (fun q hq => ?_)
        obtain ⟨_, ⟨h, _⟩ | ⟨g, c, cur, h, hg, _⟩⟩ := hown
        · rw [h] at hq; cases hq
        · rw [h] at hq; cases hq; exact hg
    · obtain rfl : k = ss.length := by omega
      go_wp2
      go_ret
      exact ⟨_, rfl, by simpa using hown, hb⟩

set_option maxRecDepth 100000 in
theorem keptList_any (w : World) (ss : List ByteArray) (n : Int) (ap : Option Addr) (cap : Nat) (hr : Reads w (.slice ap ss.length cap) 1 ss.length (ss.map Value.string)) (hlen : ss.length * 16 ≤ 140737488351232) :
    Calls Tryz.prog 61 #[.slice ap ss.length cap, .int .i64 n] w fun e w' => ∃ v, e = .returned v ∧ w'.ownsRow w.heap.size 9 1 v (ss.filter (longer n)).length ((ss.filter (longer n)).map Value.string) ∧ Below w.heap.size w w' := by
  have hmf : ∀ (fn : Fn) (first cap : Array Value) (w : World), (Instr.makeFunc fn first cap).run Tryz.prog w = .ok (.func fn first cap) w := fun _ _ _ _ => rfl
  have hb0 : Below w.heap.size w (w.alloc (.cells #[.int .i64 n] 3)) := (Below.refl _ _).alloc (Nat.le_refl _) _
  go_enter Tryz.func61, Tryz.ntmps61
  go_wp2_with fail
  refine (keep_any _ ss n ⟨w.heap.size, 0, none⟩ ap cap (hr.below hb0) hlen (by simp) (by simp [go_sem])).mono ?_
  rintro e w1 ⟨v, rfl, hown, hb1⟩
  go_wp2
  go_ret
  exact ⟨_, rfl, ownsRow_le hown (by simp), hb0.trans (hb1.mono (by simp))⟩
end Go.Proofs.YtfjdogpjckipbaaGreatDoor
