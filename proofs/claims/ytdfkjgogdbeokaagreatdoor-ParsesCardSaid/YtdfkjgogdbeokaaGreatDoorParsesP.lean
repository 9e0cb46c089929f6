/-
  DERIVED. 'flowlinelaw.Parses': the row proved, and its tied card.
-/
import Derived.Test.YtdfkjgogdbeokaaGreatDoorRows
import Derived.Test.YtdfkjgogdbeokaaGreatDoorCards
import Derived.Test.YtdfkjgogdbeokaaGreatDoorTie
import Derived.Test.YtdfkjgogdbeokaaGreatDoorOpenD
import Derived.Test.YtdfkjgogdbeokaaGreatDoorParL
import Derived.Test.YtdfkjgogdbeokaaGreatDoorPatD
import Derived.Test.YtdfkjgogdbeokaaGreatDoorLaid
import Derived.OpenShut
import Derived.LaidMore
import Derived.Stop.Joined
import Derived.SevenTiedAt
namespace Go.Proofs.YtdfkjgogdbeokaaGreatDoor
open Go.ChangeShapes Go.WideShapes Go.ChangeAt Go.RowKit

theorem own : ownKnob Tryz.prog.godebug = none := by kernel_rfl

theorem Tryz.laidOut : laidOutB Tryz.prog = true := by kernel_rfl
theorem parsesSents {W : World} (h : laidMetH Tryz.prog Rows.parsesRow.laid W) : ∃ a : Nat → Addr, Sents a W := by
  have h' : laidMet Tryz.prog (sevenL.map (fun x => (x.1, .iface "*errors.errorString" (.ptr (.agg [.lit (.string x.2)])))) ++ [("flowline/flow.patterns", Rows.laid_flowline_flow_patterns)]) W ∧ handlesMet Tryz.prog [("errors.errorType", Rows.laid_errors_errorType)] W := h
  exact sents_of_laid _ h'.1 (handle_of_laid h'.2)
theorem laid_rest {P : Program} {W : World} (r : List (String × DataW Unit)) : ∀ (l : List (String × DataW Unit)) (ps : List MemPlace), DataW.LaidVars P W (l ++ r) ps → ∃ q, DataW.LaidVars P W r q
  | [], ps, h => ⟨ps, h⟩
  | (_, _) :: l, _, h => by
    obtain ⟨_, _, _, _, _, q, _, _, _, _, hq, _⟩ := h
    exact laid_rest r l q hq
theorem parsesPat {W : World} (h : laidMetH Tryz.prog Rows.parsesRow.laid W) : PatG W := by
  have h' : laidMet Tryz.prog (sevenL.map (fun x => (x.1, .iface "*errors.errorString" (.ptr (.agg [.lit (.string x.2)])))) ++ [("flowline/flow.patterns", Rows.laid_flowline_flow_patterns)]) W ∧ handlesMet Tryz.prog [("errors.errorType", Rows.laid_errors_errorType)] W := h
  obtain ⟨ps, hv, _, _⟩ := h'.1
  obtain ⟨q, hq⟩ := laid_rest _ _ _ hv
  obtain ⟨g, t, cs, f, p, q', hg, ht, hvv, hd, _, _⟩ := hq
  have eg : g = 8 := (Option.some.inj ((show Tryz.prog.globalNamed "flowline/flow.patterns" = some 8 by kernel_rfl).symm.trans hg)).symm
  subst eg
  have et : t = 233 := (Option.some.inj ((show (Tryz.prog.globals[8]?).map (·.type) = some 233 by kernel_rfl).symm.trans ht)).symm
  subst et
  have hc : W.rangeAt 8 0 patF := fun j v hj => by
    have h1 := pat_cells hd j v hj
    rw [Nat.zero_add, World.var?_cell hg hvv j]
    simpa using h1
  refine ⟨hc, ?_⟩
  have h0 := hc 0 _ rfl
  exact lt_of_cell h0

theorem parsesDoor (os : Os) (args : Array Value) : laidMetH Tryz.prog Rows.parsesRow.laid ((World.doorLaid Tryz.prog 400 os).forCall (fun _ _ => 0) ⟨#[], args, []⟩).memory :=
  laidMetH_of_parts3 (fuel := 8) (laidMet_of_run' 8 (by kernel_rfl) (by kernel_rfl)) (by kernel_rfl) (by kernel_rfl)

set_option maxRecDepth 100000 in
theorem parsesLifted (os : Os) (started : os.Started) (H : Type) (enc : TypeId × Value → H) :
    ReturnsInHanded {} Tryz.checked os 3 .any (fun w args => (Rows.parsesSpec.pre enc Tryz.prog Tryz.f3 [] false w args ∧ laidMetH Tryz.prog Rows.parsesRow.laid w) ∧ sizedMet enc Tryz.prog Tryz.f3 (OpenSpec.ofChange Rows.parsesSpec) false w args)
      (Rows.parsesSpec.post enc Tryz.prog Tryz.f3 false true false false) := by
  refine returnsInHanded_of_change_and (C := Tryz.checked) (X := fun w _ => laidMetH Tryz.prog Rows.parsesRow.laid w) (fun _ _ _ hh h => h.of_heap hh) own started (by kernel_rfl) Tryz.func3
    (ChangeSpec.witness_shaped (enc := enc) (C := Tryz.checked) (os := os) (X := fun w _ => laidMetH Tryz.prog Rows.parsesRow.laid w) false (World.doorLaid Tryz.prog 400 os) #[.slice none 0 0] 8 rfl (World.shaped_of_RefB (by kernel_rfl) (by kernel_rfl)) (by kernel_rfl) (by kernel_rfl) (by kernel_rfl) (parsesDoor os _)) ?_
  intro W base args ds gs before hval0 hW _ hsz0 hL _
  have hsz : (DataW.weightsEach Tryz.prog (Tryz.f3.params.toList ++ Rows.parsesSpec.plain.varTypes Tryz.prog) (ds ++ gs)).all (· ≤ reachBytes) = true := hsz0
  clear hsz0
  have hval : ∀ (j : Nat) t v, Tryz.f3.params[j]? = some t → args[j]? = some v → Value.okWide Tryz.prog W .any base t v := hval0
  have hW' := hW
  obtain ⟨p, q, hA0, hV, rfl, _, _⟩ := hW
  have hA : DataW.TrodAll enc Tryz.prog W 0 (fun _ => true) true Tryz.f3.params.toList args.toList ds p := hA0
  rw [Tryz.params3] at hA hval hsz
  obtain ⟨v0, d0, rfl, rfl, h0⟩ := trodAll_one hA
  obtain ⟨rfl, rfl⟩ := trodVars_none hV
  obtain ⟨a0, len0, cap0, rfl⟩ := okWide_slice Tryz.underlying22 (hval 0 22 v0 rfl rfl)
  have h0k := h0
  obtain ⟨fuel, hf⟩ := h0
  clear hA0 hval0
  simp only [List.append_nil] at hW'
  have hlt : ∀ x ∈ p, x.block < W.heap.size := fun x hx => by simpa using hW'.lt x hx
  have hws : ∀ z ∈ d0.weights Tryz.prog 22, z ≤ reachBytes := fun z hz => by
    have := List.all_eq_true.1 hsz z (DataW.weights_mem_each (j := 0) (t := 22) (d := d0) rfl rfl z hz)
    simpa using this
  obtain ⟨ap, cap, ops, hcs, hrd, hok, hlen⟩ := open_script hf hws
  simp [Value.cells] at hcs
  obtain ⟨rfl, rfl, rfl⟩ := hcs
  obtain ⟨a, hS⟩ := parsesSents hL
  refine (parses_any a W hS (parsesPat hL) ops _ _ hrd hlen (fun o ho => (hok o ho).1)).mono fun e W' ⟨he, hb⟩ => ?_
  subst he
  have e1 : Rows.parsesSpec.fn H ([d0] ++ []) = { results := [.lit (.bool true)], args := [d0] } := rfl
  refine ⟨_, rfl, _, _, _, [], p ++ [], [], hW', ?_, ?_, ?_, hb.frame _, fun h => by cases h⟩
  · rw [e1]; exact trodAll_mk1 (shut_bool Tryz.underlying4 _)
  · rw [e1, List.append_nil]; exact trodAll_mk1 (Below.trod Tryz.laidOut (by kernel_rfl) (of_decide_eq_true (by kernel_rfl)) h0k hb hlt)
  · rw [e1]; rfl

theorem parses_holds : Rows.ParsesSaid :=
  OpenClaim.holds_of_wide 3 Tryz.f3 rfl rfl rfl rfl rfl rfl rfl ⟨rfl, rfl, rfl, rfl, rfl⟩ rfl rfl rfl rfl rfl (by kernel_rfl) Tryz.func3 (by kernel_rfl)
    (of_decide_eq_true (by kernel_rfl)) (by unfold Func.isWrapper; rw [if_neg (of_decide_eq_false (by kernel_rfl))]; exact ⟨rfl, rfl⟩)
    (fun os started H enc _ => parsesLifted os started H enc)

theorem parsesCard_holds : Rows.ParsesCardSaid :=
  Claim7.holds_tied_plain_at .later [] Rows.parsesCard.laidKinds true Rows.parsesCard.stood.harness true
    parses_holds (fun _ h => by cases h) (by kernel_rfl) (fun _ h => by cases h) parses_row_tie rfl ⟨rfl, rfl⟩ (by kernel_rfl) rfl
    (fun f fn hf hfn => by
      obtain rfl : f = 3 := Option.some.inj ((show Tryz.prog.funcNamed "flowline/flowlinelaw.Parses" = some 3 by kernel_rfl).symm.trans hf) |>.symm
      obtain rfl : fn = Tryz.f3 := (Option.some.inj (Tryz.func3.symm.trans hfn)).symm
      exact ⟨by kernel_rfl, fun j t ht => by
        rw [Tryz.params3] at ht
        have hm : t ∈ [22] := by simpa using Array.mem_of_getElem? ht
        have hall : ([22].all fun u => !Tryz.prog.wantsStandIn u) = true := by kernel_rfl
        exact (show Tryz.prog.wantsStandIn t = false by simpa using List.all_eq_true.1 hall t hm)⟩)
    (by kernel_rfl)
#print axioms parsesCard_holds
end Go.Proofs.YtdfkjgogdbeokaaGreatDoor
