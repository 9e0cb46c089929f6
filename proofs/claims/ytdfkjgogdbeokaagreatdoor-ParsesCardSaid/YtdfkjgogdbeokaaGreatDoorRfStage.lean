/-
  DERIVED. The reference's stage, whatever it begins with.
-/
import Derived.Test.YtdfkjgogdbeokaaGreatDoorRfStA
import Derived.Test.YtdfkjgogdbeokaaGreatDoorRfStB
import Derived.Test.YtdfkjgogdbeokaaGreatDoorRfStC
import Derived.Test.YtdfkjgogdbeokaaGreatDoorRfStD
import Derived.Test.YtdfkjgogdbeokaaGreatDoorRfStP
import Derived.Test.YtdfkjgogdbeokaaGreatDoorRfStQ
namespace Go.Proofs.YtdfkjgogdbeokaaGreatDoor
open Go.RowKit
set_option linter.unusedVariables false

set_option maxRecDepth 100000 in
set_option maxHeartbeats 4000000 in
theorem stg_none (w : World) (b : Nat) (s : ByteArray) (p q : Nat) (nv : Value) (ns : List ByteArray) (h : Rd w b s p false nv) (hn : Nm w b nv ns) (hp : p ≤ s.size) (hs : s.size ≤ 120)
    (hat : hdAt s p p = (false, q)) :
    Calls Tryz.prog 71 #[.pointer (some ⟨b, 0, none⟩)] w fun e w' => StgV e ∧ RdPost w b s nv (true, q, ns) w' := by
  have h1 : Rd (w.alloc (.cells #[.string ⟨#[]⟩, .int .i64 0, .int .i64 0, .string ⟨#[]⟩, .slice none 0 0, .slice none 0 0] 116)) b s p false nv := h.of_block (Below.heap_alloc _ _ _ h.lt)
  have hn1 : Nm (w.alloc (.cells #[.string ⟨#[]⟩, .int .i64 0, .int .i64 0, .string ⟨#[]⟩, .slice none 0 0, .slice none 0 0] 116)) b nv ns := World.ownsRow.alloc hn _
  have hbl := h.lt
  have hnlt : nv.ownBlock ≠ some w.heap.size := fun e => by have := (World.ownsRow.lt hn _ e).2; omega
  go_enter Tryz.func71, Tryz.ntmps71
  go_wp2_with fail
  refine (head_any _ b s p _ h1 hp hs).mono ?_
  rw [hat]
  rintro e w2 ⟨-, hr, hrd, hq1, hq2, hgr⟩
  obtain ⟨t, rfl⟩ := hr rfl
  replace hrd : Rd w2 b s q true nv := hrd
  obtain ⟨c0, c1, c2, c3, f1, f2, f3⟩ := hrd.cells
  have n2 := hn1.kept hgr
  have kp2 : Keeps w w2 b nv nv := (Keeps.of_grown nv (grown_alloc w _ (some b))).step hgr
  have y2 := (hgr.block w.heap.size (by simp) (by simp; omega)).trans (heap_alloc_new w _)
  have v0 : w2.cell? ⟨w.heap.size, 0, none⟩ = some (.string ⟨#[]⟩) := by simp [World.cell?, y2]
  have u0 : w2.frozen? ⟨w.heap.size, 0, none⟩ = false := by simp [World.frozen?, y2]
  have v1 : w2.cell? ⟨w.heap.size, 1, none⟩ = some (.int .i64 0) := by simp [World.cell?, y2]
  have u1 : w2.frozen? ⟨w.heap.size, 1, none⟩ = false := by simp [World.frozen?, y2]
  have v2 : w2.cell? ⟨w.heap.size, 2, none⟩ = some (.int .i64 0) := by simp [World.cell?, y2]
  have u2 : w2.frozen? ⟨w.heap.size, 2, none⟩ = false := by simp [World.frozen?, y2]
  have v3 : w2.cell? ⟨w.heap.size, 3, none⟩ = some (.string ⟨#[]⟩) := by simp [World.cell?, y2]
  have u3 : w2.frozen? ⟨w.heap.size, 3, none⟩ = false := by simp [World.frozen?, y2]
  have v4 : w2.cell? ⟨w.heap.size, 4, none⟩ = some (.slice none 0 0) := by simp [World.cell?, y2]
  have u4 : w2.frozen? ⟨w.heap.size, 4, none⟩ = false := by simp [World.frozen?, y2]
  have v5 : w2.cell? ⟨w.heap.size, 5, none⟩ = some (.slice none 0 0) := by simp [World.cell?, y2]
  have u5 : w2.frozen? ⟨w.heap.size, 5, none⟩ = false := by simp [World.frozen?, y2]
  have E := six_end (R := (true, q, ns)) (.string ⟨#[]⟩) (.int .i64 0) (.int .i64 0) (.string ⟨#[]⟩) (.slice none 0 0) (.slice none 0 0) y2 hrd n2 kp2 (Nat.le_refl _) (by omega) hnlt
  go_wp2
  exact bodyPost_ret (results_cell_row rfl _ _ w.heap.size 116 _ (0, 0) _ rfl E.1 Tryz.underlying116 rfl Tryz.sizeRS) rfl ⟨⟨_, _, _, _, _, _, _, _, _, _, rfl⟩, E.2⟩

/-- What a beginning leads to. -/
def stK (s : ByteArray) (L : UInt8 → Bool × Nat × List ByteArray → Bool × Nat × List ByteArray) (hd : ByteArray) (q : Nat) (ns : List ByteArray) : Bool × Nat × List ByteArray :=
  if hd.data = #[112, 97, 114, 32] then parS s L ((numSpec s 1 4 q).1, (numSpec s 1 4 q).2, ns ++ [⟨#[112, 97, 114]⟩])
  else if hd.data = #[98, 111, 116, 104, 40] then bothS s L (false, q, ns ++ [⟨#[98, 111, 116, 104]⟩])
  else if hd.data = #[115, 117, 109, 32] then ((numSpec s (1) 9 q).1, (numSpec s (1) 9 q).2, ns ++ [⟨#[115, 117, 109]⟩])
  else if hd.data = #[116, 97, 107, 101, 32] then ((numSpec s (0) 99 q).1, (numSpec s (0) 99 q).2, ns ++ [⟨#[116, 97, 107, 101]⟩])
  else if hd.data = #[115, 107, 105, 112, 32] then ((numSpec s (0) 99 q).1, (numSpec s (0) 99 q).2, ns ++ [⟨#[115, 107, 105, 112]⟩])
  else if hd.data = #[97, 100, 100, 32] then ((numSpec s (-999) 999 q).1, (numSpec s (-999) 999 q).2, ns ++ [⟨#[97, 100, 100]⟩])
  else if hd.data = #[109, 117, 108, 32] then ((numSpec s (-999) 999 q).1, (numSpec s (-999) 999 q).2, ns ++ [⟨#[109, 117, 108]⟩])
  else if hd.data = #[115, 112, 105, 110, 32] then ((numSpec s (-999) 999 q).1, (numSpec s (-999) 999 q).2, ns ++ [⟨#[115, 112, 105, 110]⟩])
  else if hd.size = 8 then (false, q, ns ++ [⟨#[102, 111, 108, 100]⟩])
  else (false, q, ns ++ [hd])
def stS (s : ByteArray) (L : UInt8 → Bool × Nat × List ByteArray → Bool × Nat × List ByteArray) (p : Nat) (ns : List ByteArray) : Bool × Nat × List ByteArray :=
  if (hdAt s p p).1 = true then stK s L (s.extract p (hdAt s p p).2) (hdAt s p p).2 ns else (true, (hdAt s p p).2, ns)
theorem stK_add_ (s : ByteArray) (L : UInt8 → Bool × Nat × List ByteArray → Bool × Nat × List ByteArray) (q : Nat) (ns : List ByteArray) : stK s L ⟨#[97, 100, 100, 32]⟩ q ns = ((numSpec s (-999) 999 q).1, (numSpec s (-999) 999 q).2, ns ++ [⟨#[97, 100, 100]⟩]) := rfl
theorem stK_mul_ (s : ByteArray) (L : UInt8 → Bool × Nat × List ByteArray → Bool × Nat × List ByteArray) (q : Nat) (ns : List ByteArray) : stK s L ⟨#[109, 117, 108, 32]⟩ q ns = ((numSpec s (-999) 999 q).1, (numSpec s (-999) 999 q).2, ns ++ [⟨#[109, 117, 108]⟩]) := rfl
theorem stK_even (s : ByteArray) (L : UInt8 → Bool × Nat × List ByteArray → Bool × Nat × List ByteArray) (q : Nat) (ns : List ByteArray) : stK s L ⟨#[101, 118, 101, 110]⟩ q ns = (false, q, ns ++ [⟨#[101, 118, 101, 110]⟩]) := rfl
theorem stK_ints (s : ByteArray) (L : UInt8 → Bool × Nat × List ByteArray → Bool × Nat × List ByteArray) (q : Nat) (ns : List ByteArray) : stK s L ⟨#[105, 110, 116, 115]⟩ q ns = (false, q, ns ++ [⟨#[105, 110, 116, 115]⟩]) := rfl
theorem stK_words (s : ByteArray) (L : UInt8 → Bool × Nat × List ByteArray → Bool × Nat × List ByteArray) (q : Nat) (ns : List ByteArray) : stK s L ⟨#[119, 111, 114, 100, 115]⟩ q ns = (false, q, ns ++ [⟨#[119, 111, 114, 100, 115]⟩]) := rfl
theorem stK_waves (s : ByteArray) (L : UInt8 → Bool × Nat × List ByteArray → Bool × Nat × List ByteArray) (q : Nat) (ns : List ByteArray) : stK s L ⟨#[119, 97, 118, 101, 115]⟩ q ns = (false, q, ns ++ [⟨#[119, 97, 118, 101, 115]⟩]) := rfl
theorem stK_turn (s : ByteArray) (L : UInt8 → Bool × Nat × List ByteArray → Bool × Nat × List ByteArray) (q : Nat) (ns : List ByteArray) : stK s L ⟨#[116, 117, 114, 110]⟩ q ns = (false, q, ns ++ [⟨#[116, 117, 114, 110]⟩]) := rfl
theorem stK_len (s : ByteArray) (L : UInt8 → Bool × Nat × List ByteArray → Bool × Nat × List ByteArray) (q : Nat) (ns : List ByteArray) : stK s L ⟨#[108, 101, 110]⟩ q ns = (false, q, ns ++ [⟨#[108, 101, 110]⟩]) := rfl
theorem stK_pair (s : ByteArray) (L : UInt8 → Bool × Nat × List ByteArray → Bool × Nat × List ByteArray) (q : Nat) (ns : List ByteArray) : stK s L ⟨#[112, 97, 105, 114]⟩ q ns = (false, q, ns ++ [⟨#[112, 97, 105, 114]⟩]) := rfl
theorem stK_spin_ (s : ByteArray) (L : UInt8 → Bool × Nat × List ByteArray → Bool × Nat × List ByteArray) (q : Nat) (ns : List ByteArray) : stK s L ⟨#[115, 112, 105, 110, 32]⟩ q ns = ((numSpec s (-999) 999 q).1, (numSpec s (-999) 999 q).2, ns ++ [⟨#[115, 112, 105, 110]⟩]) := rfl
theorem stK_norm (s : ByteArray) (L : UInt8 → Bool × Nat × List ByteArray → Bool × Nat × List ByteArray) (q : Nat) (ns : List ByteArray) : stK s L ⟨#[110, 111, 114, 109]⟩ q ns = (false, q, ns ++ [⟨#[110, 111, 114, 109]⟩]) := rfl
theorem stK_dft (s : ByteArray) (L : UInt8 → Bool × Nat × List ByteArray → Bool × Nat × List ByteArray) (q : Nat) (ns : List ByteArray) : stK s L ⟨#[100, 102, 116]⟩ q ns = (false, q, ns ++ [⟨#[100, 102, 116]⟩]) := rfl
theorem stK_sum_ (s : ByteArray) (L : UInt8 → Bool × Nat × List ByteArray → Bool × Nat × List ByteArray) (q : Nat) (ns : List ByteArray) : stK s L ⟨#[115, 117, 109, 32]⟩ q ns = ((numSpec s (1) 9 q).1, (numSpec s (1) 9 q).2, ns ++ [⟨#[115, 117, 109]⟩]) := rfl
theorem stK_fold_max (s : ByteArray) (L : UInt8 → Bool × Nat × List ByteArray → Bool × Nat × List ByteArray) (q : Nat) (ns : List ByteArray) : stK s L ⟨#[102, 111, 108, 100, 32, 109, 97, 120]⟩ q ns = (false, q, ns ++ [⟨#[102, 111, 108, 100]⟩]) := rfl
theorem stK_fold_min (s : ByteArray) (L : UInt8 → Bool × Nat × List ByteArray → Bool × Nat × List ByteArray) (q : Nat) (ns : List ByteArray) : stK s L ⟨#[102, 111, 108, 100, 32, 109, 105, 110]⟩ q ns = (false, q, ns ++ [⟨#[102, 111, 108, 100]⟩]) := rfl
theorem stK_fold_sum (s : ByteArray) (L : UInt8 → Bool × Nat × List ByteArray → Bool × Nat × List ByteArray) (q : Nat) (ns : List ByteArray) : stK s L ⟨#[102, 111, 108, 100, 32, 115, 117, 109]⟩ q ns = (false, q, ns ++ [⟨#[102, 111, 108, 100]⟩]) := rfl
theorem stK_sort (s : ByteArray) (L : UInt8 → Bool × Nat × List ByteArray → Bool × Nat × List ByteArray) (q : Nat) (ns : List ByteArray) : stK s L ⟨#[115, 111, 114, 116]⟩ q ns = (false, q, ns ++ [⟨#[115, 111, 114, 116]⟩]) := rfl
theorem stK_count (s : ByteArray) (L : UInt8 → Bool × Nat × List ByteArray → Bool × Nat × List ByteArray) (q : Nat) (ns : List ByteArray) : stK s L ⟨#[99, 111, 117, 110, 116]⟩ q ns = (false, q, ns ++ [⟨#[99, 111, 117, 110, 116]⟩]) := rfl
theorem stK_take_ (s : ByteArray) (L : UInt8 → Bool × Nat × List ByteArray → Bool × Nat × List ByteArray) (q : Nat) (ns : List ByteArray) : stK s L ⟨#[116, 97, 107, 101, 32]⟩ q ns = ((numSpec s (0) 99 q).1, (numSpec s (0) 99 q).2, ns ++ [⟨#[116, 97, 107, 101]⟩]) := rfl
theorem stK_skip_ (s : ByteArray) (L : UInt8 → Bool × Nat × List ByteArray → Bool × Nat × List ByteArray) (q : Nat) (ns : List ByteArray) : stK s L ⟨#[115, 107, 105, 112, 32]⟩ q ns = ((numSpec s (0) 99 q).1, (numSpec s (0) 99 q).2, ns ++ [⟨#[115, 107, 105, 112]⟩]) := rfl
theorem stK_twice (s : ByteArray) (L : UInt8 → Bool × Nat × List ByteArray → Bool × Nat × List ByteArray) (q : Nat) (ns : List ByteArray) : stK s L ⟨#[116, 119, 105, 99, 101]⟩ q ns = (false, q, ns ++ [⟨#[116, 119, 105, 99, 101]⟩]) := rfl
theorem stK_both (s : ByteArray) (L : UInt8 → Bool × Nat × List ByteArray → Bool × Nat × List ByteArray) (q : Nat) (ns : List ByteArray) : stK s L ⟨#[98, 111, 116, 104, 40]⟩ q ns = bothS s L (false, q, ns ++ [⟨#[98, 111, 116, 104]⟩]) := rfl
theorem stK_par (s : ByteArray) (L : UInt8 → Bool × Nat × List ByteArray → Bool × Nat × List ByteArray) (q : Nat) (ns : List ByteArray) : stK s L ⟨#[112, 97, 114, 32]⟩ q ns = parS s L ((numSpec s 1 4 q).1, (numSpec s 1 4 q).2, ns ++ [⟨#[112, 97, 114]⟩]) := rfl

theorem hit_cases {s : ByteArray} {p q : Nat} (h : hitB s p q = true) : s.extract p q ∈ bgL := by
  unfold hitB at h
  rw [List.any_eq_true] at h
  obtain ⟨l, hl, he⟩ := h
  rw [← toList_inj (eq_of_beq he)]
  exact hl
theorem hd_true {s : ByteArray} {fr : Nat} : ∀ (f p : Nat), (hdGo s fr f p).1 = true → hitB s fr (hdGo s fr f p).2 = true ∧ p ≤ (hdGo s fr f p).2 := by
  intro f
  induction f with
  | zero => intro p h; exact ⟨h, Nat.le_refl _⟩
  | succ f ih =>
    intro p h
    unfold hdGo at h ⊢
    split at h
    · rename_i h1; rw [if_pos h1]; exact ⟨h1, Nat.le_refl _⟩
    · rename_i h1
      rw [if_neg h1]
      split at h
      · rename_i h2; rw [if_pos h2]; have := ih (p + 1) h; exact ⟨this.1, by omega⟩
      · cases h

theorem ext_lt {s hd : ByteArray} {p q : Nat} (h : s.extract p q = hd) (h0 : 0 < hd.size) : p < q := by
  rw [← h, ByteArray.size_extract] at h0
  omega
theorem stage_any (w : World) (b : Nat) (s : ByteArray) (p : Nat) (nv : Value) (ns : List ByteArray) (h : Rd w b s p false nv) (hn : Nm w b nv ns) (hp : p ≤ s.size) (hs : s.size ≤ 120) (hnl : ns.length ≤ p)
    (L : UInt8 → Bool × Nat × List ByteArray → Bool × Nat × List ByteArray)
    (hL : ∀ (c : UInt8) (ci : Int) (w' : World) (nv' : Value) (R : Bool × Nat × List ByteArray), ((c.toNat : Nat) : Int) = ci → c ≠ 0 → p < R.2.1 → R.2.1 ≤ s.size → R.2.2.length ≤ R.2.1 → Rd w' b s R.2.1 R.1 nv' → Nm w' b nv' R.2.2 → Calls Tryz.prog 44 #[.pointer (some ⟨b, 0, none⟩), .int .u8 ci] w' fun e w'' => (∃ a n k, e = .returned (.slice a n k)) ∧ RdPost w' b s nv' (L c R) w'')
    (hLn : ∀ (c : UInt8) (R : Bool × Nat × List ByteArray), R.2.1 ≤ s.size → R.2.2.length ≤ R.2.1 → R.2.1 ≤ (L c R).2.1 ∧ (L c R).2.1 ≤ s.size ∧ (L c R).2.2.length ≤ (L c R).2.1) :
    Calls Tryz.prog 71 #[.pointer (some ⟨b, 0, none⟩)] w fun e w' => StgV e ∧ RdPost w b s nv (stS s L p ns) w' := by
  unfold stS
  have htr := hd_true (s := s) (fr := p) (s.size - p) p
  obtain ⟨⟨ok, q⟩, hat⟩ : ∃ x, hdAt s p p = x := ⟨_, rfl⟩
  have hat2 : hdGo s p (s.size - p) p = (ok, q) := hat
  rw [hat2] at htr
  rw [hat]
  cases ok with
  | false =>
    rw [if_neg (by simp)]
    exact stg_none w b s p q nv ns h hn hp hs hat
  | true =>
    rw [if_pos rfl]
    obtain ⟨hhit, hpq⟩ := htr rfl
    simp only at hhit hpq ⊢
    have hm := hit_cases hhit
    generalize hex : s.extract p q = hd at hm ⊢
    simp only [bgL, List.mem_cons, List.not_mem_nil, or_false] at hm
    rcases hm with rfl | rfl | rfl | rfl | rfl | rfl | rfl | rfl | rfl | rfl | rfl | rfl | rfl | rfl | rfl | rfl | rfl | rfl | rfl | rfl | rfl | rfl | rfl
    · rw [stK_add_]; exact stg_add_ w b s p q nv ns h hn hp hs hnl hat hex
    · rw [stK_mul_]; exact stg_mul_ w b s p q nv ns h hn hp hs hnl hat hex
    · rw [stK_even]; exact stg_even w b s p q nv ns h hn hp hs hnl hat hex
    · rw [stK_ints]; exact stg_ints w b s p q nv ns h hn hp hs hnl hat hex
    · rw [stK_words]; exact stg_words w b s p q nv ns h hn hp hs hnl hat hex
    · rw [stK_waves]; exact stg_waves w b s p q nv ns h hn hp hs hnl hat hex
    · rw [stK_turn]; exact stg_turn w b s p q nv ns h hn hp hs hnl hat hex
    · rw [stK_len]; exact stg_len w b s p q nv ns h hn hp hs hnl hat hex
    · rw [stK_pair]; exact stg_pair w b s p q nv ns h hn hp hs hnl hat hex
    · rw [stK_spin_]; exact stg_spin_ w b s p q nv ns h hn hp hs hnl hat hex
    · rw [stK_norm]; exact stg_norm w b s p q nv ns h hn hp hs hnl hat hex
    · rw [stK_dft]; exact stg_dft w b s p q nv ns h hn hp hs hnl hat hex
    · rw [stK_sum_]; exact stg_sum_ w b s p q nv ns h hn hp hs hnl hat hex
    · rw [stK_fold_max]; exact stg_fold_max w b s p q nv ns h hn hp hs hnl hat hex
    · rw [stK_fold_min]; exact stg_fold_min w b s p q nv ns h hn hp hs hnl hat hex
    · rw [stK_fold_sum]; exact stg_fold_sum w b s p q nv ns h hn hp hs hnl hat hex
    · rw [stK_sort]; exact stg_sort w b s p q nv ns h hn hp hs hnl hat hex
    · rw [stK_count]; exact stg_count w b s p q nv ns h hn hp hs hnl hat hex
    · rw [stK_take_]; exact stg_take_ w b s p q nv ns h hn hp hs hnl hat hex
    · rw [stK_skip_]; exact stg_skip_ w b s p q nv ns h hn hp hs hnl hat hex
    · rw [stK_twice]; exact stg_twice w b s p q nv ns h hn hp hs hnl hat hex
    · rw [stK_both]; exact stg_both w b s p q nv ns h hn hp hs hnl hat hex L (fun c ci w1 nv1 R e1 e0 e2 e3 e4 e5 e6 => hL c ci w1 nv1 R e1 e0 (by have := ext_lt hex (by decide); omega) e3 e4 e5 e6) hLn
    · rw [stK_par]; exact stg_par w b s p q nv ns h hn hp hs hnl hat hex L (fun c ci w1 nv1 R e1 e0 e2 e3 e4 e5 e6 => hL c ci w1 nv1 R e1 e0 (by have := ext_lt hex (by decide); omega) e3 e4 e5 e6) hLn
end Go.Proofs.YtdfkjgogdbeokaaGreatDoor
