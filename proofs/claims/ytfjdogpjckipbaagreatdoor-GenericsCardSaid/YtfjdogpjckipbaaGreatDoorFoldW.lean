/-
  DERIVED. plain.Folded: flow.Fold over numbers, a text made of their bytes.
-/
import Derived.Test.YtfjdogpjckipbaaGreatDoorNamedW
import Derived.Laws.IdiomStrings
namespace Go.Proofs.YtfjdogpjckipbaaGreatDoor
open Go.RowKit

/-- The byte that a number is turned into. -/
def byteOf (n : Int) : UInt8 := UInt8.ofNat (n % 256).toNat
/-- The text of some numbers' bytes, behind a text. -/
def bytesOf (a : ByteArray) (ns : List Int) : ByteArray := ns.foldl (fun a n => a ++ ⟨#[byteOf n]⟩) a
theorem bytesOf_snoc (a : ByteArray) (ns : List Int) (n : Int) : bytesOf a (ns ++ [n]) = bytesOf a ns ++ ⟨#[byteOf n]⟩ := by simp [bytesOf]

theorem byte_nat (n : Int) : ((byteOf n).toNat : Int) = n % 256 := by
  unfold byteOf
  have h1 : 0 ≤ n % 256 := Int.emod_nonneg _ (by omega)
  have h2 : n % 256 < 256 := Int.emod_lt_of_pos _ (by omega)
  simp
  omega
/-- 'string([]byte{c})'. -/
theorem conv1 (n : Int) (W : World) : (convert 48 9 (.slice (some ⟨W.heap.size, 0, none⟩) 1 1)).run Tryz.prog (W.alloc (.cells #[.int .u8 (n % 256)] 5)) = .ok (.string ⟨#[byteOf n]⟩) (W.alloc (.cells #[.int .u8 (n % 256)] 5)) := by
  have h := run_convert_bytes_back (P := Tryz.prog) (W.alloc (.cells #[.int .u8 (n % 256)] 5)) 48 9 5 ⟨W.heap.size, 0, none⟩ 1 [byteOf n] Tryz.underlying48 Tryz.underlying5 Tryz.underlying9 (fun j hj => by
    have : j = 0 := by simpa using hj
    subst this
    simp [Addr.add, byte_nat])
  simpa using h

set_option maxRecDepth 100000 in
set_option maxHeartbeats 400000 in
theorem folded1 (a : ByteArray) (n : Int) (w : World) (ha : a.size ≤ 140737488351232) :
    Calls Tryz.prog 91 #[.string a, .int .i64 n] w fun e w' => e = .returned (.string (a ++ ⟨#[byteOf n]⟩)) ∧ Below w.heap.size w w' := by
  have hcv := conv1 n w
  go_enter Tryz.func91, Tryz.ntmps91
  go_wp2
  go_ret
  exact ⟨rfl, (Below.refl _ _).alloc (Nat.le_refl _) _⟩

theorem bytesOf_size (a : ByteArray) (ns : List Int) : (bytesOf a ns).size = a.size + ns.length := by
  induction ns generalizing a with
  | nil => simp [bytesOf]
  | cons n r ih =>
    have h := ih (a ++ ⟨#[byteOf n]⟩)
    simp only [bytesOf, List.foldl_cons, List.length_cons] at h ⊢
    rw [h, ByteArray.size_append]
    have : (ByteArray.mk #[byteOf n]).size = 1 := rfl
    omega
theorem Tryz.funcNil1 (w : World) : (binOp .eql 184 (.func (.func 91) #[] #[]) .nilFunc).run Tryz.prog w = .ok (.bool false) w := by kernel_rfl
theorem take_snoc' {α : Type} (l : List α) (k : Nat) (h : k < l.length) : l.take (k + 1) = l.take k ++ [l[k]] := by
  rw [List.take_succ_eq_append_getElem h]

set_option maxRecDepth 100000 in
set_option maxHeartbeats 400000 in
theorem fold_any (w : World) (ns : List Int) (ap : Option Addr) (cap : Nat) (hr : Reads w (.slice ap ns.length cap) 1 ns.length (ns.map (Value.int .i64))) (hlen : ns.length ≤ 140737488351232) :
    Calls Tryz.prog 90 #[.slice ap ns.length cap, .string ⟨#[]⟩, .func (.func 91) #[] #[]] w fun e w' => e = .returned (.string (bytesOf ⟨#[]⟩ ns)) ∧ Below w.heap.size w w' := by
  have hfn := Tryz.funcNil1
  go_enter Tryz.func90, Tryz.ntmps90
  go_wp2
  go_loopw [1, 14] (fun v t wr => ∃ k : Nat, k ≤ ns.length ∧ t = .int .i64 k ∧ v = .string (bytesOf ⟨#[]⟩ (ns.take k)) ∧ Below w.heap.size w wr) (fun _ t _ => ns.length - (intOf t).toNat)
  case atStart => exact ⟨0, Nat.zero_le _, rfl, rfl, Below.refl _ _⟩
  case round =>
    obtain ⟨k, hk, rfl, rfl, hb⟩ := hrel
    by_cases hlt : k < ns.length
    · obtain ⟨b, o, cap', hv, hbl, hc⟩ := hr.one k (by simpa using hlt)
      cases hv
      have s0 : wr.cell? ⟨b, o + k, none⟩ = some (.int .i64 ns[k]) := by rw [hb.cell (p := ⟨b, o + k, none⟩) hbl, hc]; simp
      have HT : Hid (bytesOf ⟨#[]⟩ (ns.take (k + 1)) = bytesOf ⟨#[]⟩ (ns.take k) ++ ⟨#[byteOf ns[k]]⟩) := by
        show _ = _
        rw [take_snoc' ns k hlt, bytesOf_snoc]
      clear hc
      go_wp2_with fail
      refine (folded1 _ _ _ (by rw [bytesOf_size]; have : (ByteArray.mk #[]).size = 0 := rfl; simp [List.length_take]; omega)).mono ?_
      rintro e w1 ⟨rfl, hb1⟩
      go_wp2
      exact ⟨⟨k + 1, by omega, by go_num, by rw [HT.out], hb.trans (hb1.mono hb.size)⟩, by simp [intOf]; omega⟩
    · obtain rfl : k = ns.length := by omega
      go_wp2
      go_ret
      exact ⟨by rw [List.take_length]; rfl, hb⟩
theorem folded_any (w : World) (ns : List Int) (ap : Option Addr) (cap : Nat) (hr : Reads w (.slice ap ns.length cap) 1 ns.length (ns.map (Value.int .i64))) (hlen : ns.length ≤ 140737488351232) :
    Calls Tryz.prog 60 #[.slice ap ns.length cap] w fun e w' => e = .returned (.string (bytesOf ⟨#[]⟩ ns)) ∧ Below w.heap.size w w' := by
  go_enter Tryz.func60, Tryz.ntmps60
  go_wp2_with fail
  refine (fold_any w ns ap cap hr hlen).mono ?_
  rintro e w1 ⟨rfl, hb1⟩
  go_wp2
  go_ret
  exact ⟨rfl, hb1⟩
end Go.Proofs.YtfjdogpjckipbaaGreatDoor
