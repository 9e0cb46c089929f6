/-
  DERIVED. 'flowlinelaw.Stages': the row proved, and its tied card.
-/
import Derived.Test.YtdfkjgogdbeokaaDoorRows
import Derived.Test.YtdfkjgogdbeokaaDoorCards
import Derived.Test.YtdfkjgogdbeokaaDoorTie
import Derived.Test.YtdfkjgogdbeokaaDoorOpenD
import Derived.Test.YtdfkjgogdbeokaaDoorStgL
import Derived.Test.YtdfkjgogdbeokaaDoorPatD
import Derived.Test.YtdfkjgogdbeokaaDoorLaid
import Derived.OpenShut
import Derived.LaidMore
import Derived.Stop.Joined
import Derived.SevenTiedAt
namespace Go.Proofs.YtdfkjgogdbeokaaDoor
open Go.ChangeShapes Go.WideShapes Go.ChangeAt Go.RowKit

theorem own : ownKnob Tryd.prog.godebug = none := by kernel_rfl

theorem Tryd.laidOut : laidOutB Tryd.prog = true := by kernel_rfl
theorem stagesSents {W : World} (h : laidMetH Tryd.prog Rows.stagesRow.laid W) : ∃ a : Nat → Addr, Sents a W := by
  have h' : laidMet Tryd.prog (sevenL.map (fun x => (x.1, .iface "*errors.errorString" (.ptr (.agg [.lit (.string x.2)])))) ++ [("flowline/flow.patterns", Rows.laid_flowline_flow_patterns)]) W ∧ handlesMet Tryd.prog [("errors.errorType", Rows.laid_errors_errorType)] W := h
  exact sents_of_laid _ h'.1 (handle_of_laid h'.2)
theorem laid_rest {P : Program} {W : World} (r : List (String × DataW Unit)) : ∀ (l : List (String × DataW Unit)) (ps : List MemPlace), DataW.LaidVars P W (l ++ r) ps → ∃ q, DataW.LaidVars P W r q
  | [], ps, h => ⟨ps, h⟩
  | (_, _) :: l, _, h => by
    obtain ⟨_, _, _, _, _, q, _, _, _, _, hq, _⟩ := h
    exact laid_rest r l q hq
theorem stagesPat {W : World} (h : laidMetH Tryd.prog Rows.stagesRow.laid W) : PatG W := by
  have h' : laidMet Tryd.prog (sevenL.map (fun x => (x.1, .iface "*errors.errorString" (.ptr (.agg [.lit (.string x.2)])))) ++ [("flowline/flow.patterns", Rows.laid_flowline_flow_patterns)]) W ∧ handlesMet Tryd.prog [("errors.errorType", Rows.laid_errors_errorType)] W := h
  obtain ⟨ps, hv, _, _⟩ := h'.1
  obtain ⟨q, hq⟩ := laid_rest _ _ _ hv
  obtain ⟨g, t, cs, f, p, q', hg, ht, hvv, hd, _, _⟩ := hq
  have eg : g = 8 := (Option.some.inj ((show Tryd.prog.globalNamed "flowline/flow.patterns" = some 8 by kernel_rfl).symm.trans hg)).symm
  subst eg
  have et : t = 145 := (Option.some.inj ((show (Tryd.prog.globals[8]?).map (·.type) = some 145 by kernel_rfl).symm.trans ht)).symm
  subst et
  have hc : W.rangeAt 8 0 patF := fun j v hj => by
    have h1 := pat_cells hd j v hj
    rw [Nat.zero_add, World.var?_cell hg hvv j]
    simpa using h1
  refine ⟨hc, ?_⟩
  have h0 := hc 0 _ rfl
  exact lt_of_cell h0

theorem stagesDoor (os : Os) (args : Array Value) : laidMetH Tryd.prog Rows.stagesRow.laid ((World.doorLaid Tryd.prog 400 os).forCall (fun _ _ => 0) ⟨#[], args, []⟩).memory :=
  laidMetH_of_parts3 (fuel := 8) (laidMet_of_run' 8 (by kernel_rfl) (by kernel_rfl)) (by kernel_rfl) (by kernel_rfl)

set_option maxRecDepth 100000 in
theorem stagesLifted (os : Os) (started : os.Started) (H : Type) (enc : TypeId × Value → H) :
    ReturnsInHanded {} Tryd.checked os 4 .any (fun w args => (Rows.stagesSpec.pre enc Tryd.prog Tryd.f4 [] false w args ∧ laidMetH Tryd.prog Rows.stagesRow.laid w) ∧ sizedMet enc Tryd.prog Tryd.f4 (OpenSpec.ofChange Rows.stagesSpec) false w args)
      (Rows.stagesSpec.post enc Tryd.prog Tryd.f4 false true false false) := by
  refine returnsInHanded_of_change_and (C := Tryd.checked) (X := fun w _ => laidMetH Tryd.prog Rows.stagesRow.laid w) (fun _ _ _ hh h => h.of_heap hh) own started (by kernel_rfl) Tryd.func4
    (ChangeSpec.witness_shaped (enc := enc) (C := Tryd.checked) (os := os) (X := fun w _ => laidMetH Tryd.prog Rows.stagesRow.laid w) false (World.doorLaid Tryd.prog 400 os) #[.slice none 0 0] 8 rfl (World.shaped_of_RefB (by kernel_rfl) (by kernel_rfl)) (by kernel_rfl) (by kernel_rfl) (by kernel_rfl) (stagesDoor os _)) ?_
  intro W base args ds gs before hval0 hW _ hsz0 hL _
  have hsz : (DataW.weightsEach Tryd.prog (Tryd.f4.params.toList ++ Rows.stagesSpec.plain.varTypes Tryd.prog) (ds ++ gs)).all (· ≤ reachBytes) = true := hsz0
  clear hsz0
  have hval : ∀ (j : Nat) t v, Tryd.f4.params[j]? = some t → args[j]? = some v → Value.okWide Tryd.prog W .any base t v := hval0
  have hW' := hW
  obtain ⟨p, q, hA0, hV, rfl, _, _⟩ := hW
  have hA : DataW.TrodAll enc Tryd.prog W 0 (fun _ => true) true Tryd.f4.params.toList args.toList ds p := hA0
  rw [Tryd.params4] at hA hval hsz
  obtain ⟨v0, d0, rfl, rfl, h0⟩ := trodAll_one hA
  obtain ⟨rfl, rfl⟩ := trodVars_none hV
  obtain ⟨a0, len0, cap0, rfl⟩ := okWide_slice Tryd.underlying23 (hval 0 23 v0 rfl rfl)
  have h0k := h0
  obtain ⟨fuel, hf⟩ := h0
  clear hA0 hval0
  simp only [List.append_nil] at hW'
  have hlt : ∀ x ∈ p, x.block < W.heap.size := fun x hx => by simpa using hW'.lt x hx
  have hws : ∀ z ∈ d0.weights Tryd.prog 23, z ≤ reachBytes := fun z hz => by
    have := List.all_eq_true.1 hsz z (DataW.weights_mem_each (j := 0) (t := 23) (d := d0) rfl rfl z hz)
    simpa using this
  obtain ⟨ap, cap, ops, hcs, hrd, hok, hlen⟩ := open_script hf hws
  simp [Value.cells] at hcs
  obtain ⟨rfl, rfl, rfl⟩ := hcs
  obtain ⟨a, hS⟩ := stagesSents hL
  refine (stages_any a W hS (stagesPat hL) ops _ _ hrd hlen).mono fun e W' ⟨he, hb⟩ => ?_
  subst he
  have e1 : Rows.stagesSpec.fn H ([d0] ++ []) = { results := [.lit (.bool true)], args := [d0] } := rfl
  refine ⟨_, rfl, _, _, _, [], p ++ [], [], hW', ?_, ?_, ?_, hb.frame _, fun h => by cases h⟩
  · rw [e1]; exact trodAll_mk1 (shut_bool Tryd.underlying4 _)
  · rw [e1, List.append_nil]; exact trodAll_mk1 (Below.trod Tryd.laidOut (by kernel_rfl) (of_decide_eq_true (by kernel_rfl)) h0k hb hlt)
  · rw [e1]; rfl

theorem stages_holds : Rows.StagesSaid :=
  OpenClaim.holds_of_wide 4 Tryd.f4 rfl rfl rfl rfl rfl rfl rfl ⟨rfl, rfl, rfl, rfl, rfl⟩ rfl rfl rfl rfl rfl (by kernel_rfl) Tryd.func4 (by kernel_rfl)
    (of_decide_eq_true (by kernel_rfl)) (by unfold Func.isWrapper; rw [if_neg (of_decide_eq_false (by kernel_rfl))]; exact ⟨rfl, rfl⟩)
    (fun os started H enc _ => stagesLifted os started H enc)

theorem stagesCard_holds : Rows.StagesCardSaid :=
  Claim7.holds_tied_plain_at .later [] Rows.stagesCard.laidKinds true Rows.stagesCard.stood.harness true
    stages_holds (fun _ h => by cases h) (by kernel_rfl) (fun _ h => by cases h) stages_row_tie rfl ⟨rfl, rfl⟩ (by kernel_rfl) rfl
    (fun f fn hf hfn => by
      obtain rfl : f = 4 := Option.some.inj ((show Tryd.prog.funcNamed "flowline/flowlinelaw.Stages" = some 4 by kernel_rfl).symm.trans hf) |>.symm
      obtain rfl : fn = Tryd.f4 := (Option.some.inj (Tryd.func4.symm.trans hfn)).symm
      exact ⟨by kernel_rfl, fun j t ht => by
        rw [Tryd.params4] at ht
        have hm : t ∈ [23] := by simpa using Array.mem_of_getElem? ht
        have hall : ([23].all fun u => !Tryd.prog.wantsStandIn u) = true := by kernel_rfl
        exact (show Tryd.prog.wantsStandIn t = false by simpa using List.all_eq_true.1 hall t hm)⟩)
    (by kernel_rfl)
#print axioms stagesCard_holds
end Go.Proofs.YtdfkjgogdbeokaaDoor
