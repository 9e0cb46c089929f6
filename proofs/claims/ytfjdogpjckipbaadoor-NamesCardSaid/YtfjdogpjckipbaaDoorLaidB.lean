/-
  DERIVED. From the row's condition on the listed variables to the cells that the walks ask for.
-/
import Derived.Test.YtfjdogpjckipbaaDoorRows
import Derived.Test.YtfjdogpjckipbaaDoorNumB
import Derived.LaidLaws
import Derived.LaidHandle
import Derived.Stop.LaidErr
namespace Go.Proofs.YtfjdogpjckipbaaDoor
open Go.ChangeShapes Go.WideShapes Go.RowKit

/-- A list of sentinels at the head of what is laid: each a pointer of its own. -/
theorem laid_many {P : Program} {nm : String} {ti tp te ts : TypeId} {ms : Array (String × TypeId)} {f : Field}
    (hi : P.underlying ti = some (.interface ms)) (hrow : ∀ u, P.typeName? 3 u = some nm → u = tp)
    (hp : P.underlying tp = some (.pointer te)) (he : P.underlying te = some (.struct #[f])) (hft : f.type = ts) (hfo : f.offset = 0) (hs : P.underlying ts = some .string) (hc : P.cellsOf te = 1) (hcs : P.cellsOf ts = 1)
    {W : World} (r : List (String × DataW Unit)) :
    ∀ (l : List (String × List UInt8)) (ps : List MemPlace),
      (∀ x ∈ l, ∀ g, P.globalNamed x.1 = some g → (P.globals[g]?).map (·.type) = some ti) →
      DataW.LaidVars P W (l.map (fun x => (x.1, .iface nm (.ptr (.agg [.lit (.string x.2)])))) ++ r) ps → ps.Nodup →
      (∀ b off, MemPlace.cell b off ∈ ps → (∃ c t, W.heap[b]? = some (.cells c t (0, 0))) ∧ ∀ u v, W.cell? ⟨b, off, none⟩ = some (.iface u v) → Value.okWide P W .any 0 u v) →
      ∃ ads : List Addr, ads.length = l.length ∧ ads.Nodup ∧ (∀ a ∈ ads, MemPlace.cell a.block a.off ∈ ps) ∧
        ∀ (i : Nat) (x : String × List UInt8), l[i]? = some x → ∃ a : Addr, ads[i]? = some a ∧ W.var? P x.1 = some #[.iface tp (.pointer (some a))]
  | [], _, _, _, _, _ => ⟨[], rfl, List.nodup_nil, (fun _ h => by cases h), (fun i x h => by simp at h)⟩
  | (n, text) :: l, ps, hty, hv, hnd, hrows => by
    obtain ⟨g0, t0, cs0, f0, p0, q0, hg0, ht0, hv0, hd0, hq, e0⟩ := hv
    have ht := hty (n, text) (by simp) g0 hg0
    obtain rfl := Option.some.inj (ht.symm.trans ht0)
    subst e0
    obtain ⟨l0⟩ := cs0
    have ok0 : ∀ u v, l0 = [.iface u v] → Value.okWide P W .any 0 u v := fun u v e => by
      subst e
      exact (hrows g0 0 (by simp [MemPlace.row])).2 u v (by simpa using World.var?_cell hg0 hv0 0)
    obtain ⟨a0, s0, rfl, hc0, hs0, hz0, rfl⟩ := errorString_of_trod hi hrow hp he hft hfo hs hc hcs hd0 ok0
    obtain ⟨ads, hlen, hasnd, hin, hat⟩ := laid_many hi hrow hp he hft hfo hs hc hcs r l q0 (fun x hx => hty x (List.mem_cons_of_mem _ hx)) hq
      (List.Nodup.sublist (List.sublist_append_right _ _) hnd) (fun b off hm => hrows b off (List.mem_append_right _ hm))
    refine ⟨a0 :: ads, by simp [hlen], List.nodup_cons.2 ⟨fun hm => ?_, hasnd⟩, fun a ha => ?_, fun i x hx => ?_⟩
    · have h1 := hin a0 hm
      have h2 : MemPlace.cell a0.block a0.off ∈ MemPlace.row ⟨g0, 0, none⟩ 1 ++ MemPlace.row a0 1 := by simp [MemPlace.row]
      exact (List.nodup_append.1 hnd).2.2 _ h2 _ h1 rfl
    · rcases List.mem_cons.1 ha with rfl | ha
      · simp [MemPlace.row]
      · exact List.mem_append_right _ (hin a ha)
    · cases i with
      | zero =>
        simp at hx
        subst hx
        exact ⟨a0, rfl, hv0⟩
      | succ i => simpa using hat i x (by simpa using hx)

theorem Tryd.rt : (Tryd.prog.cutTypes.find? (·.1 == "internal/reflectlite.rtype")).map (·.2) = some 159 := by kernel_rfl
theorem Tryd.oneRow : ((List.range 229).filter fun t => Tryd.prog.rowNamed t [101, 114, 114, 111, 114]) = [30] := by kernel_rfl
theorem Tryd.size : Tryd.prog.types.size = 229 := by kernel_rfl
theorem Tryd.et : Tryd.prog.globalNamed "errors.errorType" = some 8 := by kernel_rfl
theorem Tryd.rowES (u : TypeId) (h : Tryd.prog.typeName? 3 u = some "*errors.errorString") : u = 167 :=
  typeName_ptr_named (nm := "errors.errorString") (by kernel_rfl) (by kernel_rfl) (by decide) u h
theorem Tryd.cellsES : Tryd.prog.cellsOf 195 = 1 := by kernel_rfl
theorem Tryd.cellsStr : Tryd.prog.cellsOf 9 = 1 := by kernel_rfl

theorem handle_of_laid {W : World} (h : handlesMet Tryd.prog [("errors.errorType", Rows.laid_errors_errorType)] W) : EtCell W := by
  obtain ⟨name, u, ty, e1, e2, e3, e4, e5⟩ := h _ (List.mem_singleton.2 rfl)
  have en : name = [101, 114, 114, 111, 114] := (Option.some.inj e1).symm
  subst en
  obtain rfl := Option.some.inj (Tryd.rt.symm.trans e2)
  have hm : ty ∈ (List.range 229).filter fun t => Tryd.prog.rowNamed t [101, 114, 114, 111, 114] := List.mem_filter.2 ⟨List.mem_range.2 (by rw [← Tryd.size]; exact e3), e4⟩
  rw [Tryd.oneRow] at hm
  obtain rfl := List.mem_singleton.1 hm
  have hh : typeHandle Tryd.prog 30 = .pointer (some ⟨9, 30, none⟩) := by kernel_rfl
  rw [hh] at e5
  unfold EtCell
  simpa using World.var?_cell Tryd.et e5 0

/-- The seven sentinels ads the rows list them. -/
def sevenL : List (String × List UInt8) := [("flowline/flow.ErrSyntax", [110, 111, 32, 108, 105, 110, 101]), ("flowline/flow.ErrLong", [97, 32, 116, 101, 120, 116, 32, 116, 104, 97, 116, 32, 105, 115, 32, 116, 111, 111, 32, 108, 111, 110, 103]), ("flowline/flow.ErrMany", [116, 111, 111, 32, 109, 97, 110, 121, 32, 115, 116, 97, 103, 101, 115]), ("flowline/flow.ErrKind", [97, 32, 118, 97, 108, 117, 101, 32, 111, 102, 32, 116, 104, 101, 32, 119, 114, 111, 110, 103, 32, 107, 105, 110, 100]), ("flowline/flow.ErrBig", [97, 32, 119, 97, 118, 101, 32, 116, 104, 97, 116, 32, 105, 115, 32, 116, 111, 111, 32, 98, 105, 103]), ("flowline/flow.ErrPanic", [97, 32, 102, 117, 110, 99, 116, 105, 111, 110, 32, 112, 97, 110, 105, 99, 107, 101, 100]), ("flowline/flow.ErrNone", [110, 111, 32, 118, 97, 108, 117, 101])]
theorem sevenL_types : ∀ x ∈ sevenL, ∀ g, Tryd.prog.globalNamed x.1 = some g → (Tryd.prog.globals[g]?).map (·.type) = some 30 := by
  have h : (sevenL.all fun x => (Tryd.prog.globalNamed x.1).bind (fun g => (Tryd.prog.globals[g]?).map (·.type)) == some 30) = true := by kernel_rfl
  intro x hx g hg
  have h1 := List.all_eq_true.1 h x hx
  rw [hg] at h1
  simpa using h1
theorem sevenL_at (i : Nat) (hi : i < 7) : ∃ x, sevenL[i]? = some x ∧ Tryd.prog.globalNamed x.1 = some (gOf i) := by
  have hcase : i = 0 ∨ i = 1 ∨ i = 2 ∨ i = 3 ∨ i = 4 ∨ i = 5 ∨ i = 6 := by omega
  rcases hcase with rfl | rfl | rfl | rfl | rfl | rfl | rfl <;> exact ⟨_, rfl, by kernel_rfl⟩

theorem sents_of_laid {W : World} (r : List (String × DataW Unit)) (h : laidMet Tryd.prog (sevenL.map (fun x => (x.1, .iface "*errors.errorString" (.ptr (.agg [.lit (.string x.2)])))) ++ r) W) (he : EtCell W) : ∃ a : Nat → Addr, Sents a W := by
  obtain ⟨ps, hv, hnd, hrows⟩ := h
  obtain ⟨ads, hlen, hasnd, hin, hat⟩ := laid_many Tryd.underlying30 Tryd.rowES Tryd.underlying167 Tryd.underlying195 rfl rfl Tryd.underlying9 Tryd.cellsES Tryd.cellsStr r sevenL ps sevenL_types hv hnd hrows
  have hlen7 : ads.length = 7 := hlen
  have hget : ∀ i (hi : i < 7), ∃ x, sevenL[i]? = some x ∧ Tryd.prog.globalNamed x.1 = some (gOf i) ∧ W.var? Tryd.prog x.1 = some #[.iface 167 (.pointer (some (ads.getD i ⟨0, 0, none⟩)))] ∧ ads.getD i ⟨0, 0, none⟩ ∈ ads := by
    intro i hi
    obtain ⟨x, hx, hg⟩ := sevenL_at i hi
    obtain ⟨a, ha, hva⟩ := hat i x hx
    have hd : ads.getD i ⟨0, 0, none⟩ = a := by simp [List.getD, ha]
    exact ⟨x, hx, hg, by rw [hd]; exact hva, by rw [hd]; exact List.mem_of_getElem? ha⟩
  refine ⟨fun i => ads.getD i ⟨0, 0, none⟩, he, fun i hi => ?_, fun i hi => ?_, fun i j hi hj hne e => ?_⟩
  · obtain ⟨x, _, hg, hva, _⟩ := hget i hi
    simpa using World.var?_cell hg hva 0
  · obtain ⟨x, _, _, _, hm⟩ := hget i hi
    exact (hrows _ _ (hin _ hm)).1
  · have hi' : i < ads.length := by omega
    have hj' : j < ads.length := by omega
    have e' : ads[i] = ads[j] := by simpa [List.getD, hi', hj'] using e
    exact hne ((List.getElem_inj hasnd).1 e')
end Go.Proofs.YtfjdogpjckipbaaDoor
