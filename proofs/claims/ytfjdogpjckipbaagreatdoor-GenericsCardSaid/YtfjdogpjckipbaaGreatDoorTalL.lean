/-
  DERIVED. Plain facts on items in lists: the different ones in the order in which they come first, how often each comes.
-/
import Derived.Test.YtfjdogpjckipbaaGreatDoorIndexW
namespace Go.Proofs.YtfjdogpjckipbaaGreatDoor
open Go.RowKit Go.MapKept Go.WideElems

def dd (xs : List It) : List It := xs.foldl (fun ks x => if has x ks then ks else ks ++ [x]) []
theorem dd_snoc (xs : List It) (x : It) : dd (xs ++ [x]) = if has x (dd xs) then dd xs else dd xs ++ [x] := by unfold dd; rw [List.foldl_append]; rfl
theorem dd_ind {p : List It → List It → Prop} (h0 : p [] []) (h1 : ∀ xs x, p xs (dd xs) → p (xs ++ [x]) (dd (xs ++ [x]))) : ∀ xs, p xs (dd xs) := by
  intro xs
  have h : ∀ n, ∀ xs : List It, xs.length = n → p xs (dd xs) := by
    intro n
    induction n with
    | zero => intro xs hx; rw [List.length_eq_zero_iff] at hx; subst hx; exact h0
    | succ n ih =>
      intro xs hx
      have hne : xs ≠ [] := fun e => by subst e; cases hx
      have e := List.dropLast_concat_getLast hne
      rw [← e]
      exact h1 _ _ (ih _ (by simp; omega))
  exact h _ xs rfl
theorem dd_mem (xs : List It) : ∀ x, x ∈ dd xs ↔ x ∈ xs := by
  refine dd_ind (p := fun xs ks => ∀ x, x ∈ ks ↔ x ∈ xs) (by simp) ?_ xs
  intro xs y ih x
  rw [dd_snoc]
  cases h : has y (dd xs)
  · simp [ih]
  · have hy := (has_iff y (dd xs)).1 h
    simp only [if_true, ih, List.mem_append, List.mem_singleton]
    constructor
    · exact Or.inl
    · rintro (h | rfl)
      · exact h
      · exact (ih _).1 hy
theorem dd_nodup (xs : List It) : (dd xs).Nodup := by
  refine dd_ind (p := fun xs ks => ks.Nodup) (by simp) ?_ xs
  intro xs y ih
  rw [dd_snoc]
  cases h : has y (dd xs)
  · simp only [Bool.false_eq_true, if_false]
    refine List.nodup_append.2 ⟨ih, by simp, fun a ha b hb e => ?_⟩
    simp at hb
    subst hb
    subst e
    rw [(has_iff _ _).2 ha] at h
    cases h
  · simpa using ih
theorem dd_len (xs : List It) : (dd xs).length ≤ xs.length := by
  refine dd_ind (p := fun xs ks => ks.length ≤ xs.length) (by simp) ?_ xs
  intro xs y ih
  rw [dd_snoc]
  split
  · simp; omega
  · simp; omega
theorem dd_pos (xs : List It) : (0 < (dd xs).length) ↔ (0 < xs.length) := by
  rw [List.length_pos_iff_exists_mem, List.length_pos_iff_exists_mem]
  constructor
  · rintro ⟨a, ha⟩; exact ⟨a, (dd_mem xs a).1 ha⟩
  · rintro ⟨a, ha⟩; exact ⟨a, (dd_mem xs a).2 ha⟩

/-- How many stand in all. -/
def total (ks xs : List It) : Nat := (ks.map (fun k => cnt k xs)).sum
theorem total_append (a b xs : List It) : total (a ++ b) xs = total a xs + total b xs := by simp [total]
theorem total_snoc_none (ks xs : List It) (x : It) (h : x ∉ ks) : total ks (xs ++ [x]) = total ks xs := by
  unfold total
  congr 1
  apply List.map_congr_left
  intro k hk
  rw [cnt_snoc]
  have : It.same k x = false := by
    cases e : It.same k x
    · rfl
    · exact absurd ((same_iff k x).1 e ▸ hk) h
  simp [this]
theorem total_snoc_one : ∀ (ks xs : List It) (x : It), ks.Nodup → x ∈ ks → total ks (xs ++ [x]) = total ks xs + 1
  | [], _, _, _, h => by cases h
  | k :: ks, xs, x, hn, h => by
    obtain ⟨hk, hn'⟩ := List.nodup_cons.1 hn
    have e1 : total (k :: ks) (xs ++ [x]) = cnt k (xs ++ [x]) + total ks (xs ++ [x]) := by simp [total]
    have e2 : total (k :: ks) xs = cnt k xs + total ks xs := by simp [total]
    rw [e1, e2]
    rcases List.mem_cons.1 h with rfl | h
    · rw [total_snoc_none ks xs x hk, cnt_snoc, same_self]
      simp
      omega
    · have hne : It.same k x = false := by
        cases e : It.same k x
        · rfl
        · exact absurd ((same_iff k x).1 e ▸ h) hk
      rw [total_snoc_one ks xs x hn' h, cnt_snoc, hne]
      simp
      omega
theorem total_dd (xs : List It) : total (dd xs) xs = xs.length := by
  refine dd_ind (p := fun xs ks => total ks xs = xs.length) (by simp [total]) ?_ xs
  intro xs y ih
  rw [dd_snoc]
  cases h : has y (dd xs)
  · have hy : y ∉ dd xs := fun hm => by rw [(has_iff _ _).2 hm] at h; cases h
    simp only [Bool.false_eq_true, if_false]
    rw [total_append, total_snoc_none _ _ _ hy, ih]
    have hyx : y ∉ xs := fun hm => hy ((dd_mem xs y).2 hm)
    have : total [y] (xs ++ [y]) = 1 := by simp [total, cnt_snoc, same_self, cnt_none hyx]
    rw [this]
    simp
  · have hy := (has_iff y (dd xs)).1 h
    simp only [if_true]
    rw [total_snoc_one _ _ _ (dd_nodup xs) hy, ih]
    simp

theorem nodup_len {α : Type} : ∀ (l l' : List α), l.Nodup → (∀ a ∈ l, a ∈ l') → l.length ≤ l'.length
  | [], _, _, _ => by simp
  | a :: l, l', hn, hs => by
    obtain ⟨ha, hn'⟩ := List.nodup_cons.1 hn
    obtain ⟨p, q, hpq⟩ := List.append_of_mem (hs a (by simp))
    have h := nodup_len l (p ++ q) hn' (fun b hb => by
      have h1 := hs b (List.mem_cons_of_mem _ hb)
      rw [hpq] at h1
      rcases List.mem_append.1 h1 with h1 | h1
      · exact List.mem_append_left _ h1
      · rcases List.mem_cons.1 h1 with rfl | h1
        · exact absurd hb ha
        · exact List.mem_append_right _ h1)
    rw [hpq]
    simp at h ⊢
    omega

/-- len(m). -/
theorem len_item {w : World} {m : Nat} {xs : List It} (h : MapIs w m xs) (ty : TypeId) : (Builtin.len_ #[246] ty #[.map (some m)]).run Tryz.prog w = .ok (.int .i64 ((dd xs).length : Nat)) w := by
  obtain ⟨es, clock, hb, ⟨s1, s2, s3⟩, h1, h2⟩ := h
  have e : es.size = (dd xs).length := by
    have a1 := nodup_len (es.toList.map (·.key)) ((dd xs).map It.v) s3 (fun v hv => by
      obtain ⟨e, he, rfl⟩ := List.mem_map.1 hv
      obtain ⟨x, hx, hk, _⟩ := h1 e he
      rw [hk]
      exact List.mem_map_of_mem ((dd_mem xs x).2 hx))
    have a2 := nodup_len ((dd xs).map It.v) (es.toList.map (·.key)) (List.Pairwise.map It.v (fun a b hab e => hab (v_inj e)) (dd_nodup xs)) (fun v hv => by
      obtain ⟨x, hx, rfl⟩ := List.mem_map.1 hv
      obtain ⟨e, he, hk⟩ := h2 x ((dd_mem xs x).1 hx)
      exact List.mem_map.2 ⟨e, he, hk⟩)
    simp at a1 a2
    omega
  simp [Builtin.len_, run_underlying Tryz.underlying246, MapKept.run_getObj_map hb, Result.andThen, goInt, e]
end Go.Proofs.YtfjdogpjckipbaaGreatDoor
