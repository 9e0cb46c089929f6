/-
  DERIVED. With how many bytes texts begin alike; a head, as of lists.
-/
import Derived.Test.YtdfkjgogdbeokaaGreatDoorCdWord
import Derived.Test.YtdfkjgogdbeokaaGreatDoorRfHead
import Derived.Test.YtdfkjgogdbeokaaGreatDoorCdTab
import Derived.Test.YtdfkjgogdbeokaaGreatDoorRfStage
namespace Go.Proofs.YtdfkjgogdbeokaaGreatDoor
open Go.RowKit
set_option linter.unusedVariables false

/-- With how many bytes both begin. -/
def lcp : List UInt8 → List UInt8 → Nat
  | [], _ => 0
  | y :: ys, r => match r with | [] => 0 | x :: xs => if x = y then lcp ys xs + 1 else 0

theorem le_lcp : ∀ (k : Nat) (b r : List UInt8), k ≤ lcp b r ↔ k ≤ b.length ∧ k ≤ r.length ∧ b.take k = r.take k := by
  intro k
  induction k with
  | zero => intro b r; simp
  | succ k ih =>
    intro b r
    cases b with
    | nil => simp [lcp]
    | cons y ys =>
      cases r with
      | nil => simp [lcp]
      | cons x xs =>
        by_cases h : x = y
        · subst h
          simp [lcp, ih ys xs]
        · simp only [lcp, if_neg h, List.length_cons, List.take_succ_cons, List.cons.injEq]
          constructor
          · intro h0; omega
          · rintro ⟨-, -, e, -⟩; exact absurd e.symm h
theorem lcp_le (b r : List UInt8) : lcp b r ≤ b.length ∧ lcp b r ≤ r.length := by
  have := (le_lcp _ b r).mp (Nat.le_refl _)
  exact ⟨this.1, this.2.1⟩
theorem lcp_take (b r : List UInt8) : b.take (lcp b r) = r.take (lcp b r) := ((le_lcp _ b r).mp (Nat.le_refl _)).2.2
theorem lcp_full {b r : List UInt8} : lcp b r = b.length ↔ r.take b.length = b := by
  have h := le_lcp b.length b r
  have := lcp_le b r
  constructor
  · intro e
    have := (h.mp (by omega)).2.2
    rw [← this, List.take_length]
  · intro e
    have hl : b.length ≤ r.length := by
      have := congrArg List.length e
      rw [List.length_take] at this
      omega
    have := h.mpr ⟨Nat.le_refl _, hl, by rw [e, List.take_length]⟩
    omega
theorem lcp_split {b r : List UInt8} (h : lcp b r = b.length) : ∃ r', r = b ++ r' := by
  refine ⟨r.drop b.length, ?_⟩
  conv => lhs; rw [← List.take_append_drop b.length r]
  rw [lcp_full.mp h]
theorem lcp_pre : ∀ (n u r : List UInt8), lcp n r ≠ n.length → lcp (n ++ u) r = lcp n r := by
  intro n
  induction n with
  | nil => intro u r h; exact absurd (by simp [lcp]) h
  | cons y ys ih =>
    intro u r h
    cases r with
    | nil => simp [lcp]
    | cons x xs =>
      simp only [List.cons_append, lcp]
      simp only [lcp, List.length_cons] at h
      split
      · rename_i e
        rw [if_pos e] at h
        rw [ih u xs (by omega)]
      · rfl

/-- The furthest. -/
def mxl (bs : List (List UInt8)) (r : List UInt8) : Nat := bs.foldl (fun m b => max m (lcp b r)) 0
theorem mxl_ge_acc (r : List UInt8) : ∀ (bs : List (List UInt8)) (a : Nat), a ≤ bs.foldl (fun m b => max m (lcp b r)) a := by
  intro bs
  induction bs with
  | nil => intro a; exact Nat.le_refl _
  | cons b bs ih => intro a; rw [List.foldl_cons]; have := ih (max a (lcp b r)); omega
theorem mxl_le_acc (r : List UInt8) : ∀ (bs : List (List UInt8)) (a k : Nat), a ≤ k → (∀ b ∈ bs, lcp b r ≤ k) → bs.foldl (fun m b => max m (lcp b r)) a ≤ k := by
  intro bs
  induction bs with
  | nil => intro a k h _; exact h
  | cons b bs ih =>
    intro a k h hb
    rw [List.foldl_cons]
    exact ih _ _ (by have := hb b (by simp); omega) (fun x hx => hb x (by simp [hx]))
theorem mxl_mem_acc (r : List UInt8) : ∀ (bs : List (List UInt8)) (a : Nat) (b : List UInt8), b ∈ bs → lcp b r ≤ bs.foldl (fun m b => max m (lcp b r)) a := by
  intro bs
  induction bs with
  | nil => intro a b h; cases h
  | cons c bs ih =>
    intro a b h
    rw [List.foldl_cons]
    rcases List.mem_cons.mp h with rfl | h
    · have := mxl_ge_acc r bs (max a (lcp b r)); omega
    · exact ih _ b h
theorem mxl_att_acc (r : List UInt8) : ∀ (bs : List (List UInt8)) (a : Nat), bs.foldl (fun m b => max m (lcp b r)) a = a ∨ ∃ b ∈ bs, lcp b r = bs.foldl (fun m b => max m (lcp b r)) a := by
  intro bs
  induction bs with
  | nil => intro a; exact Or.inl rfl
  | cons c bs ih =>
    intro a
    rw [List.foldl_cons]
    rcases ih (max a (lcp c r)) with h | ⟨b, hb, e⟩
    · rw [h]
      rcases Nat.le_total a (lcp c r) with k | k
      · exact Or.inr ⟨c, by simp, by omega⟩
      · exact Or.inl (by omega)
    · exact Or.inr ⟨b, by simp [hb], e⟩
theorem mxl_mem {bs : List (List UInt8)} {r b : List UInt8} (h : b ∈ bs) : lcp b r ≤ mxl bs r := mxl_mem_acc r bs 0 b h
theorem mxl_le {bs : List (List UInt8)} {r : List UInt8} {k : Nat} (h : ∀ b ∈ bs, lcp b r ≤ k) : mxl bs r ≤ k := mxl_le_acc r bs 0 k (Nat.zero_le _) h
theorem mxl_att (bs : List (List UInt8)) (r : List UInt8) : mxl bs r = 0 ∨ ∃ b ∈ bs, lcp b r = mxl bs r := mxl_att_acc r bs 0

/-- shared, as of lists. -/
theorem shGo_lcp (a b : ByteArray) : ∀ (f n : Nat), f = a.size - n → shGo a b f n = n + lcp (b.data.toList.drop n) (a.data.toList.drop n) := by
  intro f
  have ha : a.data.toList.length = a.size := by simp
  have hb : b.data.toList.length = b.size := by simp
  induction f with
  | zero =>
    intro n h
    have e : a.data.toList.drop n = [] := List.drop_eq_nil_of_le (by omega)
    rw [e]
    have : ∀ l : List UInt8, lcp l [] = 0 := fun l => by cases l <;> rfl
    rw [this]; rfl
  | succ f ih =>
    intro n h
    have hn : n < a.data.toList.length := by omega
    rw [List.drop_eq_getElem_cons hn]
    unfold shGo samB
    by_cases hnb : n < b.data.toList.length
    · rw [List.drop_eq_getElem_cons hnb]
      have e1 : a.data[n]? = some a.data.toList[n] := by rw [← Array.getElem?_toList]; exact List.getElem?_eq_getElem hn
      have e2 : b.data[n]? = some b.data.toList[n] := by rw [← Array.getElem?_toList]; exact List.getElem?_eq_getElem hnb
      rw [e1, e2]
      by_cases hxy : a.data.toList[n] = b.data.toList[n]
      · have h1 : decide (n < a.size) = true := by simp; omega
        have h2 : decide (n < b.size) = true := by simp; omega
        have h3 : (some a.data.toList[n] == some b.data.toList[n]) = true := by rw [hxy]; simp
        rw [h1, h2, h3]
        simp only [Bool.and_self, if_true]
        rw [ih (n + 1) (by omega)]
        simp only [lcp, if_pos hxy]
        omega
      · have h3 : (some a.data.toList[n] == some b.data.toList[n]) = false := by simpa using hxy
        rw [h3]
        simp only [lcp, if_neg hxy, Bool.and_false, Bool.false_eq_true, if_false]
        omega
    · have e : b.data.toList.drop n = [] := List.drop_eq_nil_of_le (by omega)
      rw [e]
      have h2 : decide (n < b.size) = false := by simp; omega
      rw [h2]
      simp only [lcp, Bool.and_false, Bool.false_and, Bool.false_eq_true, if_false]
      omega
theorem shAt_lcp (a b : ByteArray) : shAt a b 0 = lcp b.data.toList a.data.toList := by
  have := shGo_lcp a b (a.size - 0) 0 rfl
  simpa [shAt] using this

theorem wordS_spec (rest : ByteArray) : ∀ (xs : List ByteArray) (i far : Nat),
    (∃ j, ∃ h : j < xs.length, wordS rest xs i far = (some (i + j), xs[j].size) ∧ lcp xs[j].data.toList rest.data.toList = xs[j].data.toList.length) ∨
    (wordS rest xs i far = (none, (xs.map (·.data.toList)).foldl (fun m b => max m (lcp b rest.data.toList)) far) ∧ ∀ x ∈ xs, lcp x.data.toList rest.data.toList ≠ x.data.toList.length) := by
  intro xs
  induction xs with
  | nil => intro i far; exact Or.inr ⟨rfl, fun x hx => by cases hx⟩
  | cons x xs ih =>
    intro i far
    have hsz : x.data.toList.length = x.size := by simp
    by_cases h : shAt rest x 0 = x.size
    · left
      refine ⟨0, by simp, by simp [wordS, h], ?_⟩
      show lcp x.data.toList rest.data.toList = x.data.toList.length
      rw [← shAt_lcp, h, hsz]
    · have hw : wordS rest (x :: xs) i far = wordS rest xs (i + 1) (max far (shAt rest x 0)) := by simp [wordS, h]
      rw [hw]
      rcases ih (i + 1) (max far (shAt rest x 0)) with ⟨j, hj, e, k⟩ | ⟨e, k⟩
      · left
        refine ⟨j + 1, by simpa using hj, ?_, ?_⟩
        · rw [e]
          have : i + 1 + j = i + (j + 1) := by omega
          rw [this]; rfl
        · exact k
      · right
        refine ⟨?_, ?_⟩
        · rw [e, shAt_lcp]; rfl
        · intro y hy
          rcases List.mem_cons.mp hy with rfl | hy
          · rw [← shAt_lcp, hsz]; exact h
          · exact k y hy

def bgU : List (List UInt8) := bgL.map (·.data.toList)
theorem bg_free : ∀ b ∈ bgU, ∀ c ∈ bgU, lcp b c = b.length → b = c := by decide
theorem ext_list (s : ByteArray) (p q : Nat) : (s.extract p q).data.toList = (s.data.toList.drop p).take (q - p) := by
  rw [ByteArray.data_extract, Array.toList_extract]
theorem hit_list (s : ByteArray) (p q : Nat) : hitB s p q = true ↔ (s.data.toList.drop p).take (q - p) ∈ bgU := by
  unfold hitB bgU
  rw [List.any_eq_true]
  constructor
  · rintro ⟨l, hl, he⟩
    have e := toList_inj (eq_of_beq he)
    rw [← ext_list, ← e]
    exact List.mem_map.mpr ⟨l, hl, rfl⟩
  · intro h
    obtain ⟨l, hl, e⟩ := List.mem_map.mp h
    refine ⟨l, hl, ?_⟩
    rw [← ext_list] at e
    have : l = s.extract p q := ByteArray.ext (Array.ext' e)
    rw [this]; simp
theorem goes_list (s : ByteArray) (p q : Nat) (hpq : p ≤ q) (hq : q ≤ s.size) (l : ByteArray) : goesB s p q l = true ↔ q - p + 1 ≤ lcp l.data.toList (s.data.toList.drop p) := by
  rw [le_lcp]
  unfold goesB
  simp only [Bool.and_eq_true, decide_eq_true_eq, beq_iff_eq]
  have hs : s.data.toList.length = s.size := by simp
  have hl : l.data.toList.length = l.size := by simp
  have e1 : (l.extract 0 (q - p)).toList = l.data.toList.take (q - p) := by rw [ByteArray.toList_eq, ext_list]; simp
  have e2 : (s.extract p q).toList = (s.data.toList.drop p).take (q - p) := by rw [ByteArray.toList_eq, ext_list]
  have e3 : l.data[q - p]? = l.data.toList[q - p]? := by rw [Array.getElem?_toList]
  have e4 : s.data[q]? = (s.data.toList.drop p)[q - p]? := by
    rw [List.getElem?_drop, Array.getElem?_toList]
    have : p + (q - p) = q := by omega
    rw [this]
  have hR : (s.data.toList.drop p).length = s.size - p := by rw [List.length_drop, hs]
  rw [e1, e2, e3, e4, hl, hR]
  generalize s.data.toList.drop p = r at hR
  generalize l.data.toList = b at hl
  rw [List.take_add_one, List.take_add_one]
  constructor
  · rintro ⟨a1, a2, a3, a4⟩
    exact ⟨by omega, by omega, by rw [a2, a4]⟩
  · rintro ⟨a1, a2, a3⟩
    have h1 : (b.take (q - p)).length = (r.take (q - p)).length := by rw [List.length_take, List.length_take]; omega
    have h2 := List.append_inj a3 h1
    refine ⟨by omega, h2.1, by omega, ?_⟩
    have h3 := h2.2
    rcases hb : b[q - p]? with _ | x <;> rcases hr : r[q - p]? with _ | y <;> rw [hb, hr] at h3 <;> simp_all
theorem next_list (s : ByteArray) (p q : Nat) (hpq : p ≤ q) (hq : q ≤ s.size) : nextB s p q = true ↔ ∃ b ∈ bgU, q - p + 1 ≤ lcp b (s.data.toList.drop p) := by
  unfold nextB bgU
  rw [List.any_eq_true]
  constructor
  · rintro ⟨l, hl, he⟩
    exact ⟨_, List.mem_map.mpr ⟨l, hl, rfl⟩, (goes_list s p q hpq hq l).mp he⟩
  · rintro ⟨b, hb, he⟩
    obtain ⟨l, hl, e⟩ := List.mem_map.mp hb
    subst e
    exact ⟨l, hl, (goes_list s p q hpq hq l).mpr he⟩

theorem hdGo_list (s : ByteArray) (p : Nat) (hp : p ≤ s.size) : ∀ (f q : Nat), f = s.size - q → p ≤ q → q ≤ s.size → q - p ≤ mxl bgU (s.data.toList.drop p) →
    hdGo s p f q = (bgU.any (fun b => lcp b (s.data.toList.drop p) == b.length), p + mxl bgU (s.data.toList.drop p)) := by
  intro f
  have hrl : (s.data.toList.drop p).length = s.size - p := by rw [List.length_drop]; simp
  have hh := hit_list s p
  have hn := next_list s p
  generalize s.data.toList.drop p = r at *
  -- a hit
  have hit : ∀ q, p ≤ q → q ≤ s.size → q - p ≤ mxl bgU r → hitB s p q = true → bgU.any (fun b => lcp b r == b.length) = true ∧ mxl bgU r = q - p := by
    intro q h1 h2 h3 h4
    have hb := (hh q).mp h4
    have hlen : (r.take (q - p)).length = q - p := by rw [List.length_take]; omega
    have hf : lcp (r.take (q - p)) r = (r.take (q - p)).length := lcp_full.mpr (by rw [hlen])
    refine ⟨List.any_eq_true.mpr ⟨_, hb, by simpa using hf⟩, ?_⟩
    have h5 : mxl bgU r ≤ q - p := by
      refine mxl_le (fun c hc => ?_)
      rcases Nat.lt_or_ge (q - p) (lcp c r) with k | k
      · exfalso
        have k2 := (le_lcp (q - p) c r).mp (by omega)
        have e : lcp (r.take (q - p)) c = (r.take (q - p)).length := lcp_full.mpr (by rw [hlen]; exact k2.2.2)
        have := bg_free _ hb c hc e
        have k3 := (lcp_le c r).1
        have k4 : c.length = q - p := by rw [← this, hlen]
        omega
      · exact k
    omega
  have stop : ∀ q, p ≤ q → q ≤ s.size → q - p ≤ mxl bgU r → hitB s p q = false → (∀ b ∈ bgU, lcp b r ≤ q - p) → bgU.any (fun b => lcp b r == b.length) = false ∧ mxl bgU r = q - p := by
    intro q h1 h2 h3 h4 h5
    have h6 : mxl bgU r = q - p := by have := mxl_le h5; omega
    refine ⟨?_, h6⟩
    rw [Bool.eq_false_iff]
    intro h7
    obtain ⟨b, hb, e⟩ := List.any_eq_true.mp h7
    have e : lcp b r = b.length := by simpa using e
    have hle := h5 b hb
    rcases Nat.lt_or_ge b.length (q - p) with k | k
    · rcases mxl_att bgU r with z | ⟨c, hc, ec⟩
      · omega
      · have k2 := lcp_take c r
        have e2 : lcp b c = b.length := lcp_full.mpr (by
          have a1 := lcp_full.mp e
          have a2 := congrArg (List.take b.length) k2
          rw [List.take_take, List.take_take] at a2
          have : min b.length (lcp c r) = b.length := by omega
          rw [this] at a2
          rw [a2, a1])
        have := bg_free b hb c hc e2
        subst this
        omega
    · have e3 : b.length = q - p := by omega
      have : hitB s p q = true := (hh q).mpr (by rw [← e3, lcp_full.mp e]; exact hb)
      rw [this] at h4; cases h4
  induction f with
  | zero =>
    intro q h0 h1 h2 h3
    show (hitB s p q, q) = _
    cases h4 : hitB s p q
    · have := stop q h1 h2 h3 h4 (fun b hb => by have := (lcp_le b r).2; omega)
      rw [this.1, this.2]
      congr 1; omega
    · have := hit q h1 h2 h3 h4
      rw [this.1, this.2]
      congr 1; omega
  | succ f ih =>
    intro q h0 h1 h2 h3
    unfold hdGo
    cases h4 : hitB s p q
    · rw [if_neg (by simp)]
      cases h5 : nextB s p q
      · rw [if_neg (by simp)]
        have := stop q h1 h2 h3 h4 (fun b hb => by
          rcases Nat.lt_or_ge (q - p) (lcp b r) with k | k
          · have := (hn q h1 h2).mpr ⟨b, hb, by omega⟩
            rw [this] at h5; cases h5
          · exact k)
        rw [this.1, this.2]
        congr 1; omega
      · rw [if_pos rfl]
        obtain ⟨b, hb, k⟩ := (hn q h1 h2).mp h5
        have k2 := mxl_mem (r := r) hb
        exact ih (q + 1) (by omega) (by omega) (by omega) (by omega)
    · rw [if_pos rfl]
      have := hit q h1 h2 h3 h4
      rw [this.1, this.2]
      congr 1; omega
theorem hd_list (s : ByteArray) (p : Nat) (hp : p ≤ s.size) : hdAt s p p = (bgU.any (fun b => lcp b (s.data.toList.drop p) == b.length), p + mxl bgU (s.data.toList.drop p)) :=
  hdGo_list s p hp _ p rfl (Nat.le_refl _) hp (by omega)
end Go.Proofs.YtdfkjgogdbeokaaGreatDoor
namespace Go.Proofs.YtdfkjgogdbeokaaGreatDoor
open Go.RowKit
set_option linter.unusedVariables false

def nmU : List (List UInt8) := nmL.map (·.data.toList)
theorem bg_nm : ∀ b ∈ bgU, ∃ n ∈ nmU, n ++ b.drop n.length = b := by decide
theorem nm_bg : ∀ n ∈ nmU, ∃ b ∈ bgU, n ++ b.drop n.length = b := by decide

theorem hd_none (s : ByteArray) (p far : Nat) (hp : p ≤ s.size) (h : wordS (s.extract p s.size) nmL 0 0 = (none, far)) : hdAt s p p = (false, p + far) ∧ p + far ≤ s.size := by
  have hrest : (s.extract p s.size).data.toList = s.data.toList.drop p := by
    rw [ext_list, List.take_of_length_le]
    rw [List.length_drop]; simp
  have hrl : (s.data.toList.drop p).length = s.size - p := by rw [List.length_drop]; simp
  rcases wordS_spec (s.extract p s.size) nmL 0 0 with ⟨j, hj, e, k⟩ | ⟨e, k⟩
  · rw [h] at e; cases e
  · rw [h] at e
    rw [hrest] at e k
    have hfar : far = mxl nmU (s.data.toList.drop p) := by
      unfold mxl nmU
      exact (Prod.mk.inj e).2
    clear e
    rw [hd_list s p hp]
    generalize s.data.toList.drop p = r at *
    have kk : ∀ n ∈ nmU, lcp n r ≠ n.length := by
      intro n hn
      obtain ⟨x, hx, e⟩ := List.mem_map.mp hn
      subst e
      exact k x hx
    have key : ∀ n ∈ nmU, ∀ u, lcp (n ++ u) r = lcp n r := fun n hn u => lcp_pre n u r (kk n hn)
    have h1 : mxl bgU r ≤ far := by
      refine mxl_le (fun b hb => ?_)
      obtain ⟨n, hn, e⟩ := bg_nm b hb
      rw [← e, key n hn, hfar]
      exact mxl_mem hn
    have h2 : far ≤ mxl bgU r := by
      rw [hfar]
      refine mxl_le (fun n hn => ?_)
      obtain ⟨b, hb, e⟩ := nm_bg n hn
      have := mxl_mem (r := r) hb
      rw [← e, key n hn] at this
      exact this
    have h3 : bgU.any (fun b => lcp b r == b.length) = false := by
      rw [Bool.eq_false_iff]
      intro h7
      obtain ⟨b, hb, e⟩ := List.any_eq_true.mp h7
      have e : lcp b r = b.length := by simpa using e
      obtain ⟨n, hn, e2⟩ := bg_nm b hb
      have e3 := kk n hn
      rw [← e2, key n hn, List.length_append] at e
      have := (lcp_le n r).1
      omega
    have h4 : mxl bgU r = far := by omega
    have h5 : far ≤ r.length := by rw [hfar]; exact mxl_le (fun b _ => (lcp_le b r).2)
    rw [h3, h4]
    exact ⟨rfl, by omega⟩

theorem isAt_drop (s : ByteArray) (p m : Nat) (c : UInt8) : isAt s (p + m) c = ((s.data.toList.drop p)[m]? == some c) := by
  unfold isAt
  rw [List.getElem?_drop, Array.getElem?_toList]
theorem ext_is {s : ByteArray} {p m : Nat} {n : ByteArray} {r' : List UInt8} (h : s.data.toList.drop p = n.data.toList ++ r') (hm : n.size = m) : s.extract p (p + m) = n := by
  refine ByteArray.ext (Array.ext' ?_)
  rw [ext_list, h]
  have : p + m - p = n.data.toList.length := by simp; omega
  rw [this, List.take_left']
  rfl
theorem lcp_c (y : UInt8) (ys : List UInt8) (x : UInt8) (xs : List UInt8) : lcp (y :: ys) (x :: xs) = if x = y then lcp ys xs + 1 else 0 := rfl
theorem pat_add (s : ByteArray) (L : UInt8 → Bool × Nat × List ByteArray → Bool × Nat × List ByteArray) (p : Nat) (ns : List ByteArray) (r' : List UInt8) (hp : p ≤ s.size) (h : s.data.toList.drop p = (⟨#[97, 100, 100]⟩ : ByteArray).data.toList ++ r') :
    (isAt s (p + 3) 32 = true → stS s L p ns = ((numSpec s (-999) 999 (p + 3 + 1)).1, (numSpec s (-999) 999 (p + 3 + 1)).2, ns ++ [⟨#[97, 100, 100]⟩])) ∧
    (isAt s (p + 3) 32 = false → stS s L p ns = (true, p + 3, ns)) := by
  rw [isAt_drop, h]
  cases r' with
  | nil =>
    refine ⟨fun e => by simp at e, fun _ => ?_⟩
    have e1 : hdAt s p p = (false, p + 3) := by
      rw [hd_list s p hp, h]
      simp [mxl, bgU, bgL, lcp]
    unfold stS
    rw [e1]
    rfl
  | cons x xs =>
    by_cases hx : x = 32
    · subst hx
      refine ⟨fun _ => ?_, fun e => by simp at e⟩
      have h2 : s.data.toList.drop p = (⟨#[97, 100, 100, 32]⟩ : ByteArray).data.toList ++ xs := by rw [h]; rfl
      have e1 : hdAt s p p = (true, p + 4) := by
        rw [hd_list s p hp, h2]
        simp [mxl, bgU, bgL, lcp]
      have e2 : s.extract p (p + 4) = ⟨#[97, 100, 100, 32]⟩ := ext_is h2 rfl
      unfold stS
      rw [e1]
      simp only [if_true]
      rw [e2]
      rfl
    · refine ⟨fun e => by simp [hx] at e, fun _ => ?_⟩
      have e1 : hdAt s p p = (false, p + 3) := by
        rw [hd_list s p hp, h]
        simp [mxl, bgU, bgL, lcp, hx]
      unfold stS
      rw [e1]
      rfl

theorem pat_mul (s : ByteArray) (L : UInt8 → Bool × Nat × List ByteArray → Bool × Nat × List ByteArray) (p : Nat) (ns : List ByteArray) (r' : List UInt8) (hp : p ≤ s.size) (h : s.data.toList.drop p = (⟨#[109, 117, 108]⟩ : ByteArray).data.toList ++ r') :
    (isAt s (p + 3) 32 = true → stS s L p ns = ((numSpec s (-999) 999 (p + 3 + 1)).1, (numSpec s (-999) 999 (p + 3 + 1)).2, ns ++ [⟨#[109, 117, 108]⟩])) ∧
    (isAt s (p + 3) 32 = false → stS s L p ns = (true, p + 3, ns)) := by
  rw [isAt_drop, h]
  cases r' with
  | nil =>
    refine ⟨fun e => by simp at e, fun _ => ?_⟩
    have e1 : hdAt s p p = (false, p + 3) := by
      rw [hd_list s p hp, h]
      simp [mxl, bgU, bgL, lcp]
    unfold stS
    rw [e1]
    rfl
  | cons x xs =>
    by_cases hx : x = 32
    · subst hx
      refine ⟨fun _ => ?_, fun e => by simp at e⟩
      have h2 : s.data.toList.drop p = (⟨#[109, 117, 108, 32]⟩ : ByteArray).data.toList ++ xs := by rw [h]; rfl
      have e1 : hdAt s p p = (true, p + 4) := by
        rw [hd_list s p hp, h2]
        simp [mxl, bgU, bgL, lcp]
      have e2 : s.extract p (p + 4) = ⟨#[109, 117, 108, 32]⟩ := ext_is h2 rfl
      unfold stS
      rw [e1]
      simp only [if_true]
      rw [e2]
      rfl
    · refine ⟨fun e => by simp [hx] at e, fun _ => ?_⟩
      have e1 : hdAt s p p = (false, p + 3) := by
        rw [hd_list s p hp, h]
        simp [mxl, bgU, bgL, lcp, hx]
      unfold stS
      rw [e1]
      rfl

theorem pat_even (s : ByteArray) (L : UInt8 → Bool × Nat × List ByteArray → Bool × Nat × List ByteArray) (p : Nat) (ns : List ByteArray) (r' : List UInt8) (hp : p ≤ s.size) (h : s.data.toList.drop p = (⟨#[101, 118, 101, 110]⟩ : ByteArray).data.toList ++ r') : stS s L p ns = (false, p + 4, ns ++ [⟨#[101, 118, 101, 110]⟩]) := by
      have e1 : hdAt s p p = (true, p + 4) := by
        rw [hd_list s p hp, h]
        simp [mxl, bgU, bgL, lcp]
      have e2 : s.extract p (p + 4) = ⟨#[101, 118, 101, 110]⟩ := ext_is h rfl
      unfold stS
      rw [e1]
      simp only [if_true]
      rw [e2]
      rfl

theorem pat_ints (s : ByteArray) (L : UInt8 → Bool × Nat × List ByteArray → Bool × Nat × List ByteArray) (p : Nat) (ns : List ByteArray) (r' : List UInt8) (hp : p ≤ s.size) (h : s.data.toList.drop p = (⟨#[105, 110, 116, 115]⟩ : ByteArray).data.toList ++ r') : stS s L p ns = (false, p + 4, ns ++ [⟨#[105, 110, 116, 115]⟩]) := by
      have e1 : hdAt s p p = (true, p + 4) := by
        rw [hd_list s p hp, h]
        simp [mxl, bgU, bgL, lcp]
      have e2 : s.extract p (p + 4) = ⟨#[105, 110, 116, 115]⟩ := ext_is h rfl
      unfold stS
      rw [e1]
      simp only [if_true]
      rw [e2]
      rfl

theorem pat_words (s : ByteArray) (L : UInt8 → Bool × Nat × List ByteArray → Bool × Nat × List ByteArray) (p : Nat) (ns : List ByteArray) (r' : List UInt8) (hp : p ≤ s.size) (h : s.data.toList.drop p = (⟨#[119, 111, 114, 100, 115]⟩ : ByteArray).data.toList ++ r') : stS s L p ns = (false, p + 5, ns ++ [⟨#[119, 111, 114, 100, 115]⟩]) := by
      have e1 : hdAt s p p = (true, p + 5) := by
        rw [hd_list s p hp, h]
        simp [mxl, bgU, bgL, lcp]
      have e2 : s.extract p (p + 5) = ⟨#[119, 111, 114, 100, 115]⟩ := ext_is h rfl
      unfold stS
      rw [e1]
      simp only [if_true]
      rw [e2]
      rfl

theorem pat_waves (s : ByteArray) (L : UInt8 → Bool × Nat × List ByteArray → Bool × Nat × List ByteArray) (p : Nat) (ns : List ByteArray) (r' : List UInt8) (hp : p ≤ s.size) (h : s.data.toList.drop p = (⟨#[119, 97, 118, 101, 115]⟩ : ByteArray).data.toList ++ r') : stS s L p ns = (false, p + 5, ns ++ [⟨#[119, 97, 118, 101, 115]⟩]) := by
      have e1 : hdAt s p p = (true, p + 5) := by
        rw [hd_list s p hp, h]
        simp [mxl, bgU, bgL, lcp]
      have e2 : s.extract p (p + 5) = ⟨#[119, 97, 118, 101, 115]⟩ := ext_is h rfl
      unfold stS
      rw [e1]
      simp only [if_true]
      rw [e2]
      rfl

theorem pat_turn (s : ByteArray) (L : UInt8 → Bool × Nat × List ByteArray → Bool × Nat × List ByteArray) (p : Nat) (ns : List ByteArray) (r' : List UInt8) (hp : p ≤ s.size) (h : s.data.toList.drop p = (⟨#[116, 117, 114, 110]⟩ : ByteArray).data.toList ++ r') : stS s L p ns = (false, p + 4, ns ++ [⟨#[116, 117, 114, 110]⟩]) := by
      have e1 : hdAt s p p = (true, p + 4) := by
        rw [hd_list s p hp, h]
        simp [mxl, bgU, bgL, lcp]
      have e2 : s.extract p (p + 4) = ⟨#[116, 117, 114, 110]⟩ := ext_is h rfl
      unfold stS
      rw [e1]
      simp only [if_true]
      rw [e2]
      rfl

theorem pat_len (s : ByteArray) (L : UInt8 → Bool × Nat × List ByteArray → Bool × Nat × List ByteArray) (p : Nat) (ns : List ByteArray) (r' : List UInt8) (hp : p ≤ s.size) (h : s.data.toList.drop p = (⟨#[108, 101, 110]⟩ : ByteArray).data.toList ++ r') : stS s L p ns = (false, p + 3, ns ++ [⟨#[108, 101, 110]⟩]) := by
      have e1 : hdAt s p p = (true, p + 3) := by
        rw [hd_list s p hp, h]
        simp [mxl, bgU, bgL, lcp]
      have e2 : s.extract p (p + 3) = ⟨#[108, 101, 110]⟩ := ext_is h rfl
      unfold stS
      rw [e1]
      simp only [if_true]
      rw [e2]
      rfl

theorem pat_pair (s : ByteArray) (L : UInt8 → Bool × Nat × List ByteArray → Bool × Nat × List ByteArray) (p : Nat) (ns : List ByteArray) (r' : List UInt8) (hp : p ≤ s.size) (h : s.data.toList.drop p = (⟨#[112, 97, 105, 114]⟩ : ByteArray).data.toList ++ r') : stS s L p ns = (false, p + 4, ns ++ [⟨#[112, 97, 105, 114]⟩]) := by
      have e1 : hdAt s p p = (true, p + 4) := by
        rw [hd_list s p hp, h]
        simp [mxl, bgU, bgL, lcp]
      have e2 : s.extract p (p + 4) = ⟨#[112, 97, 105, 114]⟩ := ext_is h rfl
      unfold stS
      rw [e1]
      simp only [if_true]
      rw [e2]
      rfl

theorem pat_spin (s : ByteArray) (L : UInt8 → Bool × Nat × List ByteArray → Bool × Nat × List ByteArray) (p : Nat) (ns : List ByteArray) (r' : List UInt8) (hp : p ≤ s.size) (h : s.data.toList.drop p = (⟨#[115, 112, 105, 110]⟩ : ByteArray).data.toList ++ r') :
    (isAt s (p + 4) 32 = true → stS s L p ns = ((numSpec s (-999) 999 (p + 4 + 1)).1, (numSpec s (-999) 999 (p + 4 + 1)).2, ns ++ [⟨#[115, 112, 105, 110]⟩])) ∧
    (isAt s (p + 4) 32 = false → stS s L p ns = (true, p + 4, ns)) := by
  rw [isAt_drop, h]
  cases r' with
  | nil =>
    refine ⟨fun e => by simp at e, fun _ => ?_⟩
    have e1 : hdAt s p p = (false, p + 4) := by
      rw [hd_list s p hp, h]
      simp [mxl, bgU, bgL, lcp]
    unfold stS
    rw [e1]
    rfl
  | cons x xs =>
    by_cases hx : x = 32
    · subst hx
      refine ⟨fun _ => ?_, fun e => by simp at e⟩
      have h2 : s.data.toList.drop p = (⟨#[115, 112, 105, 110, 32]⟩ : ByteArray).data.toList ++ xs := by rw [h]; rfl
      have e1 : hdAt s p p = (true, p + 5) := by
        rw [hd_list s p hp, h2]
        simp [mxl, bgU, bgL, lcp]
      have e2 : s.extract p (p + 5) = ⟨#[115, 112, 105, 110, 32]⟩ := ext_is h2 rfl
      unfold stS
      rw [e1]
      simp only [if_true]
      rw [e2]
      rfl
    · refine ⟨fun e => by simp [hx] at e, fun _ => ?_⟩
      have e1 : hdAt s p p = (false, p + 4) := by
        rw [hd_list s p hp, h]
        simp [mxl, bgU, bgL, lcp, hx]
      unfold stS
      rw [e1]
      rfl

theorem pat_norm (s : ByteArray) (L : UInt8 → Bool × Nat × List ByteArray → Bool × Nat × List ByteArray) (p : Nat) (ns : List ByteArray) (r' : List UInt8) (hp : p ≤ s.size) (h : s.data.toList.drop p = (⟨#[110, 111, 114, 109]⟩ : ByteArray).data.toList ++ r') : stS s L p ns = (false, p + 4, ns ++ [⟨#[110, 111, 114, 109]⟩]) := by
      have e1 : hdAt s p p = (true, p + 4) := by
        rw [hd_list s p hp, h]
        simp [mxl, bgU, bgL, lcp]
      have e2 : s.extract p (p + 4) = ⟨#[110, 111, 114, 109]⟩ := ext_is h rfl
      unfold stS
      rw [e1]
      simp only [if_true]
      rw [e2]
      rfl

theorem pat_dft (s : ByteArray) (L : UInt8 → Bool × Nat × List ByteArray → Bool × Nat × List ByteArray) (p : Nat) (ns : List ByteArray) (r' : List UInt8) (hp : p ≤ s.size) (h : s.data.toList.drop p = (⟨#[100, 102, 116]⟩ : ByteArray).data.toList ++ r') : stS s L p ns = (false, p + 3, ns ++ [⟨#[100, 102, 116]⟩]) := by
      have e1 : hdAt s p p = (true, p + 3) := by
        rw [hd_list s p hp, h]
        simp [mxl, bgU, bgL, lcp]
      have e2 : s.extract p (p + 3) = ⟨#[100, 102, 116]⟩ := ext_is h rfl
      unfold stS
      rw [e1]
      simp only [if_true]
      rw [e2]
      rfl

theorem pat_sum (s : ByteArray) (L : UInt8 → Bool × Nat × List ByteArray → Bool × Nat × List ByteArray) (p : Nat) (ns : List ByteArray) (r' : List UInt8) (hp : p ≤ s.size) (h : s.data.toList.drop p = (⟨#[115, 117, 109]⟩ : ByteArray).data.toList ++ r') :
    (isAt s (p + 3) 32 = true → stS s L p ns = ((numSpec s (1) 9 (p + 3 + 1)).1, (numSpec s (1) 9 (p + 3 + 1)).2, ns ++ [⟨#[115, 117, 109]⟩])) ∧
    (isAt s (p + 3) 32 = false → stS s L p ns = (true, p + 3, ns)) := by
  rw [isAt_drop, h]
  cases r' with
  | nil =>
    refine ⟨fun e => by simp at e, fun _ => ?_⟩
    have e1 : hdAt s p p = (false, p + 3) := by
      rw [hd_list s p hp, h]
      simp [mxl, bgU, bgL, lcp]
    unfold stS
    rw [e1]
    rfl
  | cons x xs =>
    by_cases hx : x = 32
    · subst hx
      refine ⟨fun _ => ?_, fun e => by simp at e⟩
      have h2 : s.data.toList.drop p = (⟨#[115, 117, 109, 32]⟩ : ByteArray).data.toList ++ xs := by rw [h]; rfl
      have e1 : hdAt s p p = (true, p + 4) := by
        rw [hd_list s p hp, h2]
        simp [mxl, bgU, bgL, lcp]
      have e2 : s.extract p (p + 4) = ⟨#[115, 117, 109, 32]⟩ := ext_is h2 rfl
      unfold stS
      rw [e1]
      simp only [if_true]
      rw [e2]
      rfl
    · refine ⟨fun e => by simp [hx] at e, fun _ => ?_⟩
      have e1 : hdAt s p p = (false, p + 3) := by
        rw [hd_list s p hp, h]
        simp [mxl, bgU, bgL, lcp, hx]
      unfold stS
      rw [e1]
      rfl

theorem how_cases {j : Nat} (h : j < howL.length) : j = 0 ∨ j = 1 ∨ j = 2 := by
  have : howL.length = 3 := rfl
  omega
theorem pat_fold (s : ByteArray) (L : UInt8 → Bool × Nat × List ByteArray → Bool × Nat × List ByteArray) (p : Nat) (ns : List ByteArray) (r' : List UInt8) (hp : p ≤ s.size) (h : s.data.toList.drop p = (⟨#[102, 111, 108, 100]⟩ : ByteArray).data.toList ++ r') :
    (isAt s (p + 4) 32 = true → ∀ R, wordS (s.extract (p + 4 + 1) s.size) howL 0 0 = R → stS s L p ns = (R.1.isNone, p + 4 + 1 + R.2, if R.1.isNone = true then ns else ns ++ [⟨#[102, 111, 108, 100]⟩])) ∧
    (isAt s (p + 4) 32 = false → stS s L p ns = (true, p + 4, ns)) := by
  rw [isAt_drop, h]
  cases r' with
  | nil =>
    refine ⟨fun e => by simp at e, fun _ => ?_⟩
    have e1 : hdAt s p p = (false, p + 4) := by
      rw [hd_list s p hp, h]
      simp [mxl, bgU, bgL, lcp]
    unfold stS
    rw [e1]
    rfl
  | cons x xs =>
    by_cases hx : x = 32
    · subst hx
      refine ⟨fun _ R hR => ?_, fun e => by simp at e⟩
      subst hR
      have hd2 : s.data.toList.drop (p + 4 + 1) = xs := by
        have : p + 4 + 1 = p + 5 := by omega
        rw [this, ← List.drop_drop, h]
        rfl
      have hrest : (s.extract (p + 4 + 1) s.size).data.toList = xs := by
        rw [ext_list, List.take_of_length_le, hd2]
        rw [List.length_drop]; simp
      rcases wordS_spec (s.extract (p + 4 + 1) s.size) howL 0 0 with ⟨j, hj, e, k⟩ | ⟨e, k⟩
      · rw [e]
        rw [hrest] at k
        obtain ⟨r3, h3⟩ := lcp_split k
        rcases how_cases hj with rfl | rfl | rfl

        · have h2 : s.data.toList.drop p = (⟨#[102, 111, 108, 100, 32, 109, 97, 120]⟩ : ByteArray).data.toList ++ r3 := by rw [h, h3]; rfl
          have e1 : hdAt s p p = (true, p + 8) := by
            rw [hd_list s p hp, h2]
            simp [mxl, bgU, bgL, lcp]
          have e2 : s.extract p (p + 8) = ⟨#[102, 111, 108, 100, 32, 109, 97, 120]⟩ := ext_is h2 rfl
          unfold stS
          rw [e1]
          simp only [if_true]
          rw [e2]
          rfl

        · have h2 : s.data.toList.drop p = (⟨#[102, 111, 108, 100, 32, 109, 105, 110]⟩ : ByteArray).data.toList ++ r3 := by rw [h, h3]; rfl
          have e1 : hdAt s p p = (true, p + 8) := by
            rw [hd_list s p hp, h2]
            simp [mxl, bgU, bgL, lcp]
          have e2 : s.extract p (p + 8) = ⟨#[102, 111, 108, 100, 32, 109, 105, 110]⟩ := ext_is h2 rfl
          unfold stS
          rw [e1]
          simp only [if_true]
          rw [e2]
          rfl

        · have h2 : s.data.toList.drop p = (⟨#[102, 111, 108, 100, 32, 115, 117, 109]⟩ : ByteArray).data.toList ++ r3 := by rw [h, h3]; rfl
          have e1 : hdAt s p p = (true, p + 8) := by
            rw [hd_list s p hp, h2]
            simp [mxl, bgU, bgL, lcp]
          have e2 : s.extract p (p + 8) = ⟨#[102, 111, 108, 100, 32, 115, 117, 109]⟩ := ext_is h2 rfl
          unfold stS
          rw [e1]
          simp only [if_true]
          rw [e2]
          rfl

      · rw [e]
        rw [hrest] at k ⊢
        have k0 := k ⟨#[109, 97, 120]⟩ (by simp [howL])
        have k1 := k ⟨#[109, 105, 110]⟩ (by simp [howL])
        have k2 := k ⟨#[115, 117, 109]⟩ (by simp [howL])
        have l0 := (lcp_le (⟨#[109, 97, 120]⟩ : ByteArray).data.toList xs).1
        generalize hF : (howL.map (·.data.toList)).foldl (fun m b => max m (lcp b xs)) 0 = F
        have e1 : hdAt s p p = (false, p + 4 + 1 + F) := by
          rw [hd_list s p hp, h]
          have q1 : bgU.any (fun b => lcp b ((⟨#[102, 111, 108, 100]⟩ : ByteArray).data.toList ++ 32 :: xs) == b.length) = false := by
            have e0 : lcp [109, 97, 120] xs ≠ 3 := k0
            have e1 : lcp [109, 105, 110] xs ≠ 3 := k1
            have e2 : lcp [115, 117, 109] xs ≠ 3 := k2
            generalize h0 : lcp [109, 97, 120] xs = x0 at *
            generalize h1 : lcp [109, 105, 110] xs = x1 at *
            generalize h2 : lcp [115, 117, 109] xs = x2 at *
            simp only [bgU, bgL, List.map_cons, List.map_nil, List.any_cons, List.any_nil, List.cons_append, List.nil_append, lcp_c, h0, h1, h2]
            simp
            omega
          have q2 : mxl bgU ((⟨#[102, 111, 108, 100]⟩ : ByteArray).data.toList ++ 32 :: xs) = 5 + F := by
            rw [← hF]
            generalize h0 : lcp [109, 97, 120] xs = x0 at *
            generalize h1 : lcp [109, 105, 110] xs = x1 at *
            generalize h2 : lcp [115, 117, 109] xs = x2 at *
            simp only [mxl, bgU, bgL, howL, List.map_cons, List.map_nil, List.foldl_cons, List.foldl_nil, List.cons_append, List.nil_append, lcp_c, h0, h1, h2]
            simp
            omega
          have q3 : p + (5 + F) = p + 4 + 1 + F := by omega
          rw [q1, q2, q3]
        unfold stS
        rw [e1]
        rfl
    · refine ⟨fun e => by simp [hx] at e, fun _ => ?_⟩
      have e1 : hdAt s p p = (false, p + 4) := by
        rw [hd_list s p hp, h]
        simp [mxl, bgU, bgL, lcp, hx]
      unfold stS
      rw [e1]
      rfl

theorem pat_sort (s : ByteArray) (L : UInt8 → Bool × Nat × List ByteArray → Bool × Nat × List ByteArray) (p : Nat) (ns : List ByteArray) (r' : List UInt8) (hp : p ≤ s.size) (h : s.data.toList.drop p = (⟨#[115, 111, 114, 116]⟩ : ByteArray).data.toList ++ r') : stS s L p ns = (false, p + 4, ns ++ [⟨#[115, 111, 114, 116]⟩]) := by
      have e1 : hdAt s p p = (true, p + 4) := by
        rw [hd_list s p hp, h]
        simp [mxl, bgU, bgL, lcp]
      have e2 : s.extract p (p + 4) = ⟨#[115, 111, 114, 116]⟩ := ext_is h rfl
      unfold stS
      rw [e1]
      simp only [if_true]
      rw [e2]
      rfl

theorem pat_count (s : ByteArray) (L : UInt8 → Bool × Nat × List ByteArray → Bool × Nat × List ByteArray) (p : Nat) (ns : List ByteArray) (r' : List UInt8) (hp : p ≤ s.size) (h : s.data.toList.drop p = (⟨#[99, 111, 117, 110, 116]⟩ : ByteArray).data.toList ++ r') : stS s L p ns = (false, p + 5, ns ++ [⟨#[99, 111, 117, 110, 116]⟩]) := by
      have e1 : hdAt s p p = (true, p + 5) := by
        rw [hd_list s p hp, h]
        simp [mxl, bgU, bgL, lcp]
      have e2 : s.extract p (p + 5) = ⟨#[99, 111, 117, 110, 116]⟩ := ext_is h rfl
      unfold stS
      rw [e1]
      simp only [if_true]
      rw [e2]
      rfl

theorem pat_take (s : ByteArray) (L : UInt8 → Bool × Nat × List ByteArray → Bool × Nat × List ByteArray) (p : Nat) (ns : List ByteArray) (r' : List UInt8) (hp : p ≤ s.size) (h : s.data.toList.drop p = (⟨#[116, 97, 107, 101]⟩ : ByteArray).data.toList ++ r') :
    (isAt s (p + 4) 32 = true → stS s L p ns = ((numSpec s (0) 99 (p + 4 + 1)).1, (numSpec s (0) 99 (p + 4 + 1)).2, ns ++ [⟨#[116, 97, 107, 101]⟩])) ∧
    (isAt s (p + 4) 32 = false → stS s L p ns = (true, p + 4, ns)) := by
  rw [isAt_drop, h]
  cases r' with
  | nil =>
    refine ⟨fun e => by simp at e, fun _ => ?_⟩
    have e1 : hdAt s p p = (false, p + 4) := by
      rw [hd_list s p hp, h]
      simp [mxl, bgU, bgL, lcp]
    unfold stS
    rw [e1]
    rfl
  | cons x xs =>
    by_cases hx : x = 32
    · subst hx
      refine ⟨fun _ => ?_, fun e => by simp at e⟩
      have h2 : s.data.toList.drop p = (⟨#[116, 97, 107, 101, 32]⟩ : ByteArray).data.toList ++ xs := by rw [h]; rfl
      have e1 : hdAt s p p = (true, p + 5) := by
        rw [hd_list s p hp, h2]
        simp [mxl, bgU, bgL, lcp]
      have e2 : s.extract p (p + 5) = ⟨#[116, 97, 107, 101, 32]⟩ := ext_is h2 rfl
      unfold stS
      rw [e1]
      simp only [if_true]
      rw [e2]
      rfl
    · refine ⟨fun e => by simp [hx] at e, fun _ => ?_⟩
      have e1 : hdAt s p p = (false, p + 4) := by
        rw [hd_list s p hp, h]
        simp [mxl, bgU, bgL, lcp, hx]
      unfold stS
      rw [e1]
      rfl

theorem pat_skip (s : ByteArray) (L : UInt8 → Bool × Nat × List ByteArray → Bool × Nat × List ByteArray) (p : Nat) (ns : List ByteArray) (r' : List UInt8) (hp : p ≤ s.size) (h : s.data.toList.drop p = (⟨#[115, 107, 105, 112]⟩ : ByteArray).data.toList ++ r') :
    (isAt s (p + 4) 32 = true → stS s L p ns = ((numSpec s (0) 99 (p + 4 + 1)).1, (numSpec s (0) 99 (p + 4 + 1)).2, ns ++ [⟨#[115, 107, 105, 112]⟩])) ∧
    (isAt s (p + 4) 32 = false → stS s L p ns = (true, p + 4, ns)) := by
  rw [isAt_drop, h]
  cases r' with
  | nil =>
    refine ⟨fun e => by simp at e, fun _ => ?_⟩
    have e1 : hdAt s p p = (false, p + 4) := by
      rw [hd_list s p hp, h]
      simp [mxl, bgU, bgL, lcp]
    unfold stS
    rw [e1]
    rfl
  | cons x xs =>
    by_cases hx : x = 32
    · subst hx
      refine ⟨fun _ => ?_, fun e => by simp at e⟩
      have h2 : s.data.toList.drop p = (⟨#[115, 107, 105, 112, 32]⟩ : ByteArray).data.toList ++ xs := by rw [h]; rfl
      have e1 : hdAt s p p = (true, p + 5) := by
        rw [hd_list s p hp, h2]
        simp [mxl, bgU, bgL, lcp]
      have e2 : s.extract p (p + 5) = ⟨#[115, 107, 105, 112, 32]⟩ := ext_is h2 rfl
      unfold stS
      rw [e1]
      simp only [if_true]
      rw [e2]
      rfl
    · refine ⟨fun e => by simp [hx] at e, fun _ => ?_⟩
      have e1 : hdAt s p p = (false, p + 4) := by
        rw [hd_list s p hp, h]
        simp [mxl, bgU, bgL, lcp, hx]
      unfold stS
      rw [e1]
      rfl

theorem pat_twice (s : ByteArray) (L : UInt8 → Bool × Nat × List ByteArray → Bool × Nat × List ByteArray) (p : Nat) (ns : List ByteArray) (r' : List UInt8) (hp : p ≤ s.size) (h : s.data.toList.drop p = (⟨#[116, 119, 105, 99, 101]⟩ : ByteArray).data.toList ++ r') : stS s L p ns = (false, p + 5, ns ++ [⟨#[116, 119, 105, 99, 101]⟩]) := by
      have e1 : hdAt s p p = (true, p + 5) := by
        rw [hd_list s p hp, h]
        simp [mxl, bgU, bgL, lcp]
      have e2 : s.extract p (p + 5) = ⟨#[116, 119, 105, 99, 101]⟩ := ext_is h rfl
      unfold stS
      rw [e1]
      simp only [if_true]
      rw [e2]
      rfl

theorem pat_both (s : ByteArray) (L : UInt8 → Bool × Nat × List ByteArray → Bool × Nat × List ByteArray) (p : Nat) (ns : List ByteArray) (r' : List UInt8) (hp : p ≤ s.size) (h : s.data.toList.drop p = (⟨#[98, 111, 116, 104]⟩ : ByteArray).data.toList ++ r') :
    (isAt s (p + 4) 40 = true → stS s L p ns = bothS s L (false, p + 4 + 1, ns ++ [⟨#[98, 111, 116, 104]⟩])) ∧
    (isAt s (p + 4) 40 = false → stS s L p ns = (true, p + 4, ns)) := by
  rw [isAt_drop, h]
  cases r' with
  | nil =>
    refine ⟨fun e => by simp at e, fun _ => ?_⟩
    have e1 : hdAt s p p = (false, p + 4) := by
      rw [hd_list s p hp, h]
      simp [mxl, bgU, bgL, lcp]
    unfold stS
    rw [e1]
    rfl
  | cons x xs =>
    by_cases hx : x = 40
    · subst hx
      refine ⟨fun _ => ?_, fun e => by simp at e⟩
      have h2 : s.data.toList.drop p = (⟨#[98, 111, 116, 104, 40]⟩ : ByteArray).data.toList ++ xs := by rw [h]; rfl
      have e1 : hdAt s p p = (true, p + 5) := by
        rw [hd_list s p hp, h2]
        simp [mxl, bgU, bgL, lcp]
      have e2 : s.extract p (p + 5) = ⟨#[98, 111, 116, 104, 40]⟩ := ext_is h2 rfl
      unfold stS
      rw [e1]
      simp only [if_true]
      rw [e2]
      rfl
    · refine ⟨fun e => by simp [hx] at e, fun _ => ?_⟩
      have e1 : hdAt s p p = (false, p + 4) := by
        rw [hd_list s p hp, h]
        simp [mxl, bgU, bgL, lcp, hx]
      unfold stS
      rw [e1]
      rfl

theorem pat_par (s : ByteArray) (L : UInt8 → Bool × Nat × List ByteArray → Bool × Nat × List ByteArray) (p : Nat) (ns : List ByteArray) (r' : List UInt8) (hp : p ≤ s.size) (h : s.data.toList.drop p = (⟨#[112, 97, 114]⟩ : ByteArray).data.toList ++ r') :
    (isAt s (p + 3) 32 = true → stS s L p ns = parS s L ((numSpec s 1 4 (p + 3 + 1)).1, (numSpec s 1 4 (p + 3 + 1)).2, ns ++ [⟨#[112, 97, 114]⟩])) ∧
    (isAt s (p + 3) 32 = false → stS s L p ns = (true, p + 3, ns)) := by
  rw [isAt_drop, h]
  cases r' with
  | nil =>
    refine ⟨fun e => by simp at e, fun _ => ?_⟩
    have e1 : hdAt s p p = (false, p + 3) := by
      rw [hd_list s p hp, h]
      simp [mxl, bgU, bgL, lcp]
    unfold stS
    rw [e1]
    rfl
  | cons x xs =>
    by_cases hx : x = 32
    · subst hx
      refine ⟨fun _ => ?_, fun e => by simp at e⟩
      have h2 : s.data.toList.drop p = (⟨#[112, 97, 114, 32]⟩ : ByteArray).data.toList ++ xs := by rw [h]; rfl
      have e1 : hdAt s p p = (true, p + 4) := by
        rw [hd_list s p hp, h2]
        simp [mxl, bgU, bgL, lcp]
      have e2 : s.extract p (p + 4) = ⟨#[112, 97, 114, 32]⟩ := ext_is h2 rfl
      unfold stS
      rw [e1]
      simp only [if_true]
      rw [e2]
      rfl
    · refine ⟨fun e => by simp [hx] at e, fun _ => ?_⟩
      have e1 : hdAt s p p = (false, p + 3) := by
        rw [hd_list s p hp, h]
        simp [mxl, bgU, bgL, lcp, hx]
      unfold stS
      rw [e1]
      rfl

/-- What stS is behind a name of the table. -/
def PatS (s : ByteArray) (L : UInt8 → Bool × Nat × List ByteArray → Bool × Nat × List ByteArray) (p : Nat) (ns : List ByteArray) (m : Nat) (P : ByteArray × Nat × Int × Int) : Prop :=
  (P.2.1 = 0 ∧ stS s L p ns = (false, p + m, ns ++ [P.1])) ∨
  (P.2.1 = 1 ∧ (P.2.2.1 ≤ 1 ∧ 1 ≤ P.2.2.2 ∧ P.2.2.2 ≤ 999 ∧ (0 ≤ P.2.2.1 ∨ (P.2.2.1 = -P.2.2.2 ∧ 9 ≤ P.2.2.2))) ∧
    (isAt s (p + m) 32 = true → stS s L p ns = ((numSpec s P.2.2.1 P.2.2.2 (p + m + 1)).1, (numSpec s P.2.2.1 P.2.2.2 (p + m + 1)).2, ns ++ [P.1])) ∧ (isAt s (p + m) 32 = false → stS s L p ns = (true, p + m, ns))) ∨
  (P.2.1 = 2 ∧ (isAt s (p + m) 32 = true → ∀ R, wordS (s.extract (p + m + 1) s.size) howL 0 0 = R → stS s L p ns = (R.1.isNone, p + m + 1 + R.2, if R.1.isNone = true then ns else ns ++ [P.1])) ∧ (isAt s (p + m) 32 = false → stS s L p ns = (true, p + m, ns))) ∨
  (P.2.1 = 3 ∧ (isAt s (p + m) 40 = true → stS s L p ns = bothS s L (false, p + m + 1, ns ++ [P.1])) ∧ (isAt s (p + m) 40 = false → stS s L p ns = (true, p + m, ns))) ∨
  (P.2.1 = 4 ∧ P.2.2.1 = 1 ∧ P.2.2.2 = 4 ∧ (isAt s (p + m) 32 = true → stS s L p ns = parS s L ((numSpec s 1 4 (p + m + 1)).1, (numSpec s 1 4 (p + m + 1)).2, ns ++ [P.1])) ∧ (isAt s (p + m) 32 = false → stS s L p ns = (true, p + m, ns)))

theorem pat_bd : ∀ P ∈ patL, P.2.1 = 1 → (P.2.2.1 ≤ 1 ∧ 1 ≤ P.2.2.2 ∧ P.2.2.2 ≤ 999 ∧ (0 ≤ P.2.2.1 ∨ (P.2.2.1 = -P.2.2.2 ∧ 9 ≤ P.2.2.2))) := by decide
theorem stS_some (s : ByteArray) (L : UInt8 → Bool × Nat × List ByteArray → Bool × Nat × List ByteArray) (p : Nat) (ns : List ByteArray) (m j : Nat) (hp : p ≤ s.size) (h : wordS (s.extract p s.size) nmL 0 0 = (some j, m)) :
    ∃ hj : j < patL.length, m = patL[j].1.size ∧ 0 < m ∧ p + m ≤ s.size ∧ PatS s L p ns m patL[j] := by
  have hrest : (s.extract p s.size).data.toList = s.data.toList.drop p := by
    rw [ext_list, List.take_of_length_le]
    rw [List.length_drop]; simp
  have hrl : (s.data.toList.drop p).length = s.size - p := by rw [List.length_drop]; simp
  rcases wordS_spec (s.extract p s.size) nmL 0 0 with ⟨j', hj, e, k⟩ | ⟨e, k⟩
  · rw [h] at e
    rw [hrest] at k
    have e1 : j = j' := by have := (Prod.mk.inj e).1; cases this; omega
    have e2 : m = nmL[j'].size := (Prod.mk.inj e).2
    clear e h
    subst e1
    have hj2 : j < patL.length := by simpa [nmL] using hj
    have e3 : nmL[j] = patL[j].1 := by simp [nmL]
    replace k : lcp patL[j].1.data.toList (s.data.toList.drop p) = patL[j].1.data.toList.length := by rw [← e3]; exact k
    replace e2 : m = patL[j].1.size := by rw [← e3]; exact e2
    have hle := (lcp_le patL[j].1.data.toList (s.data.toList.drop p)).2
    rw [k, hrl] at hle
    have hsz : patL[j].1.data.toList.length = patL[j].1.size := by simp
    obtain ⟨r', hr⟩ := lcp_split k
    clear k
    subst e2
    have hpos : ∀ P ∈ patL, 0 < P.1.size := by decide
    refine ⟨hj2, rfl, hpos _ (List.getElem_mem hj2), by omega, ?_⟩
    clear hle hsz hrl hrest e3 hj hpos
    have hj21 : j < 21 := hj2
    unfold PatS
    rcases pat_cases hj21 with rfl | rfl | rfl | rfl | rfl | rfl | rfl | rfl | rfl | rfl | rfl | rfl | rfl | rfl | rfl | rfl | rfl | rfl | rfl | rfl | rfl
    · exact Or.inr (Or.inl ⟨rfl, pat_bd _ (List.getElem_mem hj2) rfl, pat_add s L p ns r' hp hr⟩)
    · exact Or.inr (Or.inl ⟨rfl, pat_bd _ (List.getElem_mem hj2) rfl, pat_mul s L p ns r' hp hr⟩)
    · exact Or.inl ⟨rfl, pat_even s L p ns r' hp hr⟩
    · exact Or.inl ⟨rfl, pat_ints s L p ns r' hp hr⟩
    · exact Or.inl ⟨rfl, pat_words s L p ns r' hp hr⟩
    · exact Or.inl ⟨rfl, pat_waves s L p ns r' hp hr⟩
    · exact Or.inl ⟨rfl, pat_turn s L p ns r' hp hr⟩
    · exact Or.inl ⟨rfl, pat_len s L p ns r' hp hr⟩
    · exact Or.inl ⟨rfl, pat_pair s L p ns r' hp hr⟩
    · exact Or.inr (Or.inl ⟨rfl, pat_bd _ (List.getElem_mem hj2) rfl, pat_spin s L p ns r' hp hr⟩)
    · exact Or.inl ⟨rfl, pat_norm s L p ns r' hp hr⟩
    · exact Or.inl ⟨rfl, pat_dft s L p ns r' hp hr⟩
    · exact Or.inr (Or.inl ⟨rfl, pat_bd _ (List.getElem_mem hj2) rfl, pat_sum s L p ns r' hp hr⟩)
    · exact Or.inr (Or.inr (Or.inl ⟨rfl, pat_fold s L p ns r' hp hr⟩))
    · exact Or.inl ⟨rfl, pat_sort s L p ns r' hp hr⟩
    · exact Or.inl ⟨rfl, pat_count s L p ns r' hp hr⟩
    · exact Or.inr (Or.inl ⟨rfl, pat_bd _ (List.getElem_mem hj2) rfl, pat_take s L p ns r' hp hr⟩)
    · exact Or.inr (Or.inl ⟨rfl, pat_bd _ (List.getElem_mem hj2) rfl, pat_skip s L p ns r' hp hr⟩)
    · exact Or.inl ⟨rfl, pat_twice s L p ns r' hp hr⟩
    · exact Or.inr (Or.inr (Or.inr (Or.inl ⟨rfl, pat_both s L p ns r' hp hr⟩)))
    · exact Or.inr (Or.inr (Or.inr (Or.inr ⟨rfl, rfl, rfl, pat_par s L p ns r' hp hr⟩)))
  · rw [h] at e; cases (Prod.mk.inj e).1
theorem stS_none (s : ByteArray) (L : UInt8 → Bool × Nat × List ByteArray → Bool × Nat × List ByteArray) (p : Nat) (ns : List ByteArray) (far : Nat) (hp : p ≤ s.size) (h : wordS (s.extract p s.size) nmL 0 0 = (none, far)) : stS s L p ns = (true, p + far, ns) ∧ p + far ≤ s.size := by
  have e := hd_none s p far hp h
  refine ⟨?_, e.2⟩
  unfold stS
  rw [e.1]
  rfl
end Go.Proofs.YtdfkjgogdbeokaaGreatDoor
