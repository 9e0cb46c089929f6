/-
  DERIVED. The map that Tally makes, as a list of items so far: how often each came.
-/
import Derived.Test.YtfjdogpjckipbaaGreatDoorKeyL
namespace Go.Proofs.YtfjdogpjckipbaaGreatDoor
open Go.RowKit Go.ChangeShapes Go.WideShapes Go.MapKept Go.ChangeMaps Go.WideElems
open Go.WideMaps (KeyLaw)

def It.same (x y : It) : Bool := x.k == y.k && (x.n == y.n && (x.s.data == y.s.data && (x.re == y.re && x.im == y.im)))
theorem same_iff (x y : It) : It.same x y = true ↔ x = y := by
  cases x with
  | mk k n s re im =>
    cases y with
    | mk k' n' s' re' im' =>
      cases s
      cases s'
      simp [It.same]
theorem same_self (x : It) : It.same x x = true := (same_iff x x).2 rfl
theorem v_inj {x y : It} (h : x.v = y.v) : x = y := by
  cases x
  cases y
  simp [It.v] at h
  simp [h]
/-- How often an item stands in a list. -/
def cnt (x : It) (xs : List It) : Nat := (xs.filter (It.same x)).length
theorem cnt_snoc (x y : It) (xs : List It) : cnt x (xs ++ [y]) = cnt x xs + (if It.same x y then 1 else 0) := by
  unfold cnt
  rw [List.filter_append]
  cases h : It.same x y <;> simp [h]
theorem cnt_none {x : It} {xs : List It} (h : x ∉ xs) : cnt x xs = 0 := by
  unfold cnt
  rw [List.length_eq_zero_iff, List.filter_eq_nil_iff]
  intro y hy e
  exact h ((same_iff x y).1 e ▸ hy)
theorem cnt_le (x : It) (xs : List It) : cnt x xs ≤ xs.length := List.length_filter_le _ _

/-- Block m is a map that holds of each item of a list how often it stands there, and no other. -/
def MapIs (w : World) (m : Nat) (xs : List It) : Prop :=
  ∃ es clock, w.heap[m]? = some (.map es clock) ∧ Stamped es clock ∧
    (∀ e ∈ es.toList, ∃ x, x ∈ xs ∧ e.key = x.v ∧ e.val = .int .i64 (cnt x xs : Nat)) ∧ (∀ x ∈ xs, ∃ e ∈ es.toList, e.key = x.v)

theorem MapIs.of_block {w w' : World} {m : Nat} {xs : List It} (h : MapIs w m xs) (e : w'.heap[m]? = w.heap[m]?) : MapIs w' m xs := by
  obtain ⟨es, clock, hb, r⟩ := h
  exact ⟨es, clock, by rw [e]; exact hb, r⟩
theorem MapIs.lt {w : World} {m : Nat} {xs : List It} (h : MapIs w m xs) : m < w.heap.size := by
  obtain ⟨es, clock, hb, r⟩ := h
  rcases Nat.lt_or_ge m w.heap.size with h1 | h1
  · exact h1
  · rw [Array.getElem?_eq_none h1] at hb; cases hb
theorem MapIs.below {w w' : World} {m B : Nat} {xs : List It} (h : MapIs w m xs) (hb : Below B w w') (hm : m < B) : MapIs w' m xs := h.of_block (hb.block m hm)

theorem zeroInt (w : World) : (zeroValue 3).run Tryz.prog w = .ok (.int .i64 0) w := by kernel_rfl

theorem find_item {w : World} {xs : List It} (hok : ∀ y ∈ xs, y.ok) {es : Array MapEntry} (h1 : ∀ e ∈ es.toList, ∃ x, x ∈ xs ∧ e.key = x.v ∧ e.val = .int .i64 (cnt x xs : Nat)) {x : It} (hx : x.ok) :
    ((Instr.findKey 47 x.v es.toList).run Tryz.prog w = .ok none w ∧ ∀ e ∈ es.toList, e.key ≠ x.v) ∨
    ∃ j e, (Instr.findKey 47 x.v es.toList).run Tryz.prog w = .ok (some (j, e.val)) w ∧ es.toList[j]? = some e ∧ e.key = x.v := by
  obtain ⟨l, hl⟩ := item_key x hx
  exact Tryz.keyLaw.find w hl es.toList (fun e he => by
    obtain ⟨y, hy, hk, _⟩ := h1 e he
    rw [hk]
    exact item_key y (hok y hy))

theorem lookup_item {w : World} {m : Nat} {xs : List It} (h : MapIs w m xs) (hok : ∀ y ∈ xs, y.ok) {x : It} (hx : x.ok) :
    (Instr.lookup 246 (.map (some m)) x.v false).run Tryz.prog w = .ok (.int .i64 (cnt x xs : Nat)) w := by
  obtain ⟨es, clock, hb, hs, h1, h2⟩ := h
  obtain ⟨l, hl⟩ := item_key x hx
  rcases find_item (w := w) hok h1 hx with ⟨hf, hn⟩ | ⟨j, e, hf, hj, hk⟩
  · have h0 : cnt x xs = 0 := cnt_none fun hm => by
      obtain ⟨e, he, hke⟩ := h2 x hm
      exact hn e he hke
    simp [Instr.lookup, run_underlying Tryz.underlying246, MapKept.run_getObj_map hb, Tryz.keyLaw.check w _ hl, hf, h0, Result.andThen]
  · obtain ⟨y, hy, hky, hv⟩ := h1 e (List.mem_of_getElem? hj)
    obtain rfl : y = x := v_inj (hky.symm.trans hk)
    simp [Instr.lookup, run_underlying Tryz.underlying246, MapKept.run_getObj_map hb, Tryz.keyLaw.check w _ hl, hf, hv, Result.andThen]

/-- 'm[x]++', in the model's two halves. -/
theorem entry_item {w : World} {m : Nat} {xs : List It} (h : MapIs w m xs) (hok : ∀ y ∈ xs, y.ok) {x : It} (hx : x.ok) :
    ∃ (v0 : Value) (st : Nat) (w1 w2 : World), (Instr.mapEntry 246 (.map (some m)) x.v).run Tryz.prog w = .ok (.tuple #[v0, .int .i64 st]) w1 ∧ (Instr.lookup 246 (.map (some m)) x.v false).run Tryz.prog w1 = .ok (.int .i64 (cnt x xs : Nat)) w1 ∧
      (Instr.entryStore 246 (.map (some m)) (.int .i64 st) (.int .i64 ((cnt x xs : Nat) + 1))).run Tryz.prog w1 = .ok () w2 ∧ MapIs w2 m (xs ++ [x]) ∧ w2.os = w.os ∧ w2.tape = w.tape ∧ w2.output = w.output ∧ w2.heap.size = w.heap.size ∧ ∀ k, k ≠ m → w2.heap[k]? = w.heap[k]? := by
  obtain ⟨es, clock, hb, hs, h1, h2⟩ := h
  obtain ⟨l, hl⟩ := item_key x hx
  obtain ⟨s1, s2, s3⟩ := hs
  have hlt : m < w.heap.size := by
    rcases Nat.lt_or_ge m w.heap.size with h1 | h1
    · exact h1
    · rw [Array.getElem?_eq_none h1] at hb; cases hb
  rcases find_item (w := w) hok h1 hx with ⟨hf, hn⟩ | ⟨j, e0, hf, hj, hk⟩
  · have hnx : x ∉ xs := fun hm => by
      obtain ⟨e, he, hke⟩ := h2 x hm
      exact hn e he hke
    have h0 : cnt x xs = 0 := cnt_none hnx
    have hidx : (es.push ⟨x.v, .int .i64 0, clock⟩).findIdx? (fun e => ((e.born : Nat) : Int) == ((clock : Nat) : Int)) = some es.size := by
      rw [findIdx_arr]
      exact findIdx_born (l := (es.push ⟨x.v, .int .i64 0, clock⟩).toList) (j := es.size) (e0 := ⟨x.v, .int .i64 0, clock⟩) (by
        simp only [Array.toList_push, List.map_append, List.map_cons, List.map_nil]
        refine List.nodup_append.2 ⟨s2, by simp, fun a ha c hc e1 => ?_⟩
        simp only [List.mem_singleton] at hc
        obtain ⟨y, hy, rfl⟩ := List.mem_map.1 ha
        have := s1 y hy
        omega) (by simp)
    have hmod : (es.push ⟨x.v, .int .i64 0, clock⟩).modify es.size (fun e => { e with val := .int .i64 1 }) = es.push ⟨x.v, .int .i64 1, clock⟩ := by
      apply Array.ext'
      rw [Array.toList_modify, Array.toList_push, Array.toList_push, ← Array.length_toList, modify_last]
    refine ⟨.int .i64 0, clock, setBlock w m (.map (es.push ⟨x.v, .int .i64 0, clock⟩) (clock + 1)), setBlock (setBlock w m (.map (es.push ⟨x.v, .int .i64 0, clock⟩) (clock + 1))) m (.map (es.push ⟨x.v, .int .i64 1, clock⟩) (clock + 1)), ?_, ?_, ?_, ?_, rfl, rfl, rfl, by simp [setBlock], fun k hk => by simp [setBlock, Ne.symm hk]⟩
    · simp [Instr.mapEntry, run_underlying Tryz.underlying246, MapKept.run_getObj_map hb, Tryz.keyLaw.check w false hl, hf, MapKept.run_setObj_map _ hb, Result.andThen, setBlock, goInt]
    · have hw2 : (setBlock w m (.map (es.push ⟨x.v, .int .i64 0, clock⟩) (clock + 1))).heap[m]? = some (.map (es.push ⟨x.v, .int .i64 0, clock⟩) (clock + 1)) := by simp [setBlock, hlt]
      have hkeys : ∀ e ∈ (es.push ⟨x.v, .int .i64 0, clock⟩).toList, ∃ l, keyOf Tryz.prog 47 e.key = some l := fun e he => by
        rcases List.mem_append.1 (by simpa using he : e ∈ es.toList ++ [_]) with he | he
        · obtain ⟨y, hy, hk, _⟩ := h1 e he
          rw [hk]
          exact item_key y (hok y hy)
        · simp at he; subst he; exact ⟨l, hl⟩
      rcases Tryz.keyLaw.find (setBlock w m (.map (es.push ⟨x.v, .int .i64 0, clock⟩) (clock + 1))) hl _ hkeys with ⟨hf2, hn2⟩ | ⟨j, e, hf2, hj2, hk2⟩
      · exact absurd rfl (hn2 ⟨x.v, .int .i64 0, clock⟩ (by simp))
      · have hv2 : e.val = .int .i64 0 := by
          rcases List.mem_append.1 (by simpa using List.mem_of_getElem? hj2 : e ∈ es.toList ++ [_]) with he | he
          · exact absurd hk2 (hn e he)
          · simp at he; subst he; rfl
        simp [Instr.lookup, run_underlying Tryz.underlying246, MapKept.run_getObj_map hw2, Tryz.keyLaw.check _ _ hl, h0, Result.andThen]
        simp only [Array.toList_push] at hf2
        rw [hf2]
        simp [hv2]
    · have hw2 : (setBlock w m (.map (es.push ⟨x.v, .int .i64 0, clock⟩) (clock + 1))).heap[m]? = some (.map (es.push ⟨x.v, .int .i64 0, clock⟩) (clock + 1)) := by simp [setBlock, hlt]
      simp [Instr.entryStore, MapKept.run_getObj_map hw2, asInt, asIntOf, hidx, hmod, h0, MapKept.run_setObj_map _ hw2, Result.andThen]
      rfl
    · refine ⟨es.push ⟨x.v, .int .i64 1, clock⟩, clock + 1, by simp [setBlock, hlt], ⟨?_, ?_, ?_⟩, ?_, ?_⟩
      · intro e he
        rcases List.mem_append.1 (by simpa using he : e ∈ es.toList ++ [_]) with he | he
        · exact Nat.lt_succ_of_lt (s1 e he)
        · simp at he; subst he; exact Nat.lt_succ_self _
      · simp only [Array.toList_push, List.map_append, List.map_cons, List.map_nil]
        refine List.nodup_append.2 ⟨s2, by simp, fun a ha c hc e1 => ?_⟩
        simp only [List.mem_singleton] at hc
        obtain ⟨y, hy, rfl⟩ := List.mem_map.1 ha
        have := s1 y hy
        omega
      · simp only [Array.toList_push, List.map_append, List.map_cons, List.map_nil]
        refine List.nodup_append.2 ⟨s3, by simp, fun a ha c hc e1 => ?_⟩
        simp only [List.mem_singleton] at hc
        obtain ⟨y, hy, rfl⟩ := List.mem_map.1 ha
        exact hn y hy (e1.trans hc)
      · intro e he
        rcases List.mem_append.1 (by simpa using he : e ∈ es.toList ++ [_]) with he | he
        · obtain ⟨y, hy, hky, hv⟩ := h1 e he
          refine ⟨y, List.mem_append_left _ hy, hky, ?_⟩
          have hns : It.same y x = false := by
            cases hsm : It.same y x
            · rfl
            · exact absurd ((same_iff y x).1 hsm ▸ hy) hnx
          rw [hv, cnt_snoc, hns]
          simp
        · simp at he
          subst he
          exact ⟨x, by simp, rfl, by rw [cnt_snoc, same_self, h0]; rfl⟩
      · intro y hy
        rcases List.mem_append.1 hy with hy | hy
        · obtain ⟨e, he, hke⟩ := h2 y hy
          exact ⟨e, by simp [he], hke⟩
        · simp at hy
          subst hy
          exact ⟨⟨y.v, .int .i64 1, clock⟩, by simp, rfl⟩
  · have hj' : es[j]? = some e0 := by simpa using hj
    obtain ⟨y, hy, hky, hv⟩ := h1 e0 (List.mem_of_getElem? hj)
    obtain rfl : y = x := v_inj (hky.symm.trans hk)
    have hsame : es.modify j (fun e => { e with key := y.v }) = es := by
      apply Array.ext'
      rw [Array.toList_modify, modify_eq_set _ _ _ _ hj]
      have : ({ e0 with key := y.v } : MapEntry) = e0 := by rw [← hk]
      rw [this]
      exact set_self _ _ _ hj
    have hidx : es.findIdx? (fun e => ((e.born : Nat) : Int) == ((e0.born : Nat) : Int)) = some j := by
      rw [findIdx_arr]
      exact findIdx_born s2 hj
    have hset : (es.modify j (fun e => { e with val := .int .i64 ((cnt y xs : Nat) + 1) })).toList = es.toList.set j { e0 with val := .int .i64 ((cnt y xs : Nat) + 1) } := by
      rw [Array.toList_modify, modify_eq_set _ _ _ _ hj]
    refine ⟨e0.val, e0.born, setBlock w m (.map es clock), setBlock (setBlock w m (.map es clock)) m (.map (es.modify j (fun e => { e with val := .int .i64 ((cnt y xs : Nat) + 1) })) clock), ?_, ?_, ?_, ?_, rfl, rfl, rfl, by simp [setBlock], fun k hk => by simp [setBlock, Ne.symm hk]⟩
    · simp [Instr.mapEntry, run_underlying Tryz.underlying246, MapKept.run_getObj_map hb, Tryz.keyLaw.check w false hl, hf, hj', hk, Tryz.keyLaw.stays w hl, hsame, MapKept.run_setObj_map _ hb, Result.andThen, setBlock, goInt]
    · have hw2 : (setBlock w m (.map es clock)).heap[m]? = some (.map es clock) := by simp [setBlock, hlt]
      rcases Tryz.keyLaw.find (setBlock w m (.map es clock)) hl es.toList (fun e he => by
        obtain ⟨z, hz, hk, _⟩ := h1 e he
        rw [hk]
        exact item_key z (hok z hz)) with ⟨hf2, hn2⟩ | ⟨j2, e2, hf2, hj2, hk2⟩
      · exact absurd hk (hn2 e0 (List.mem_of_getElem? hj))
      · obtain ⟨z, hz, hkz, hvz⟩ := h1 e2 (List.mem_of_getElem? hj2)
        obtain rfl : z = y := v_inj (hkz.symm.trans hk2)
        simp [Instr.lookup, run_underlying Tryz.underlying246, MapKept.run_getObj_map hw2, Tryz.keyLaw.check _ _ hl, Result.andThen, hf2, hvz]
    · have hw2 : (setBlock w m (.map es clock)).heap[m]? = some (.map es clock) := by simp [setBlock, hlt]
      simp [Instr.entryStore, MapKept.run_getObj_map hw2, asInt, asIntOf, hidx, MapKept.run_setObj_map _ hw2, Result.andThen]
      rfl
    · refine ⟨es.modify j (fun e => { e with val := .int .i64 ((cnt y xs : Nat) + 1) }), clock, by simp [setBlock, hlt], ⟨?_, ?_, ?_⟩, ?_, ?_⟩
      · intro e he
        rw [hset] at he
        rcases List.mem_or_eq_of_mem_set he with he | rfl
        · exact s1 e he
        · exact s1 e0 (List.mem_of_getElem? hj)
      · rw [hset, List.map_set, set_self _ _ _ (by rw [List.getElem?_map, hj]; rfl)]
        exact s2
      · rw [hset, List.map_set, set_self _ _ _ (by rw [List.getElem?_map, hj]; rfl)]
        exact s3
      · intro e he
        rw [hset] at he
        obtain ⟨i, hi⟩ := List.mem_iff_getElem?.1 he
        by_cases hij : i = j
        · subst hij
          have hi' : i < es.toList.length := (List.getElem?_eq_some_iff.1 hj).1
          rw [List.getElem?_set_self hi'] at hi
          simp at hi
          subst hi
          exact ⟨y, List.mem_append_left _ hy, hk, by rw [cnt_snoc, same_self]; simp⟩
        · rw [List.getElem?_set_ne (Ne.symm hij)] at hi
          obtain ⟨z, hz, hkz, hvz⟩ := h1 e (List.mem_of_getElem? hi)
          refine ⟨z, List.mem_append_left _ hz, hkz, ?_⟩
          have hns : It.same z y = false := by
            cases hsm : It.same z y
            · rfl
            · exfalso
              have e1 := (same_iff z y).1 hsm
              subst e1
              have hki : (es.toList.map (·.key))[i]? = some z.v := by rw [List.getElem?_map, hi]; simp [hkz]
              have hkj : (es.toList.map (·.key))[j]? = some z.v := by rw [List.getElem?_map, hj]; simp [hk]
              obtain ⟨hi1, hi2⟩ := List.getElem?_eq_some_iff.1 hki
              obtain ⟨hj1, hj2⟩ := List.getElem?_eq_some_iff.1 hkj
              exact hij ((List.getElem_inj s3).1 (hi2.trans hj2.symm))
          rw [hvz, cnt_snoc, hns]
          simp
      · intro z hz
        have hz' : z ∈ xs := by
          rcases List.mem_append.1 hz with hz | hz
          · exact hz
          · simp at hz; subst hz; exact hy
        obtain ⟨e, he, hke⟩ := h2 z hz'
        obtain ⟨i, hi⟩ := List.mem_iff_getElem?.1 he
        by_cases hij : i = j
        · subst hij
          have hi' : i < es.toList.length := (List.getElem?_eq_some_iff.1 hj).1
          refine ⟨{ e0 with val := .int .i64 ((cnt y xs : Nat) + 1) }, ?_, ?_⟩
          · rw [hset]; exact List.mem_of_getElem? (by rw [List.getElem?_set_self hi'])
          · have : e = e0 := Option.some.inj (hi.symm.trans hj)
            subst this
            exact hke
        · exact ⟨e, by rw [hset]; exact List.mem_of_getElem? (by rw [List.getElem?_set_ne (Ne.symm hij)]; exact hi), hke⟩
end Go.Proofs.YtfjdogpjckipbaaGreatDoor
