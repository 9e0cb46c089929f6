/-
  DERIVED. flowlinelaw.tallied.
-/
import Derived.Test.YtfjdogpjckipbaaGreatDoorTalW
namespace Go.Proofs.YtfjdogpjckipbaaGreatDoor
open Go.RowKit

theorem cnt_take (x : It) (xs : List It) (k : Nat) (h : k < xs.length) : cnt x (xs.take (k + 1)) = cnt x (xs.take k) + (if It.same x xs[k] then 1 else 0) := by rw [take_snoc' xs k h, cnt_snoc]
theorem total_take (ks xs : List It) (k : Nat) (h : k < ks.length) : total (ks.take (k + 1)) xs = total (ks.take k) xs + cnt ks[k] xs := by
  rw [take_snoc' ks k h, total_append]
  simp [total]
theorem total_le (ks xs : List It) (k : Nat) : total (ks.take k) xs ≤ total ks xs := by
  have e : ks = ks.take k ++ ks.drop k := (List.take_append_drop k ks).symm
  have h : total ks xs = total (ks.take k) xs + total (ks.drop k) xs := by
    rw [← total_append, List.take_append_drop]
  omega
theorem bne_dec (a b : Nat) (h : 0 < a ↔ 0 < b) : (!(decide (0 < a) == decide (0 < b))) = false := by
  by_cases h1 : 0 < a
  · simp [h1, h.1 h1]
  · have h2 : ¬ 0 < b := fun e => h1 (h.2 e)
    simp only [h1, h2]
    rfl
theorem same_comm (x y : It) : It.same x y = It.same y x := by
  rw [Bool.eq_iff_iff, same_iff, same_iff]
  exact eq_comm

set_option maxRecDepth 100000 in
set_option maxHeartbeats 1000000 in
theorem talliedLaw_any (w : World) (xs : List It) (ap : Option Addr) (cap : Nat) (hr : Reads w (.slice ap xs.length cap) 5 xs.length (xs.flatMap It.fc)) (hok : ∀ y ∈ xs, y.ok) (hlen : xs.length * 48 ≤ 140737488351232) :
    Calls Tryz.prog 62 #[.slice ap xs.length cap] w fun e w' => e = .returned (.bool true) ∧ Below w.heap.size w w' := by
  have hdl := dd_len xs
  have hdp := dd_pos xs
  have htd := total_dd xs
  have hlk : ∀ k, total ((dd xs).take k) xs ≤ xs.length := fun k => by rw [← htd]; exact total_le _ _ k
  have HOk : Hid (∀ y ∈ xs, y.ok) := hok
  have HOd : Hid (∀ y ∈ dd xs, y.ok) := fun y hy => hok y ((dd_mem xs y).1 hy)
  have HTd : Hid (total (dd xs) xs = xs.length) := htd
  have HLk : Hid (∀ k, total ((dd xs).take k) xs ≤ xs.length) := hlk
  have HTT : Hid (∀ k (h : k < (dd xs).length), total ((dd xs).take (k + 1)) xs = total ((dd xs).take k) xs + cnt (dd xs)[k] xs) := fun k h => total_take _ _ k h
  go_enter Tryz.func62, Tryz.ntmps62
  go_wp2_with fail
  refine (tallied_any w xs ap cap hr hok hlen).mono ?_
  rintro e w1 ⟨v, u, rfl, hv, hu, hb1⟩
  have hr1 := hr.below hb1
  have hvr := Reads.of_owns hv
  have hur := Reads.of_owns hu
  generalize hD : dd xs = D at *
  obtain ⟨va, vc, hva, _⟩ := hvr
  subst hva
  obtain ⟨ua, uc, hua, _⟩ := hur
  subst hua
  have hvr := Reads.of_owns hv
  have hur := Reads.of_owns hu
  have hbo := bne_dec xs.length D.length hdp.symm
  clear hv hu hdp htd hlk hok hD
  go_wp2
  go_loopw [5, 6] (fun al t wr => ∃ k : Nat, k ≤ D.length ∧ t = .int .i64 k ∧ al = .int .i64 (total (D.take k) xs : Nat) ∧ Below w1.heap.size w1 wr) (fun _ t _ => D.length - (intOf t).toNat)
  case atStart => exact ⟨0, Nat.zero_le _, rfl, rfl, Below.refl _ _⟩
  case round =>
    obtain ⟨k, hk, rfl, rfl, hb⟩ := hrel
    have hle := HLk.out k
    by_cases hlt : k < D.length
    · obtain ⟨b, o, cap', hvv, hbl, hc⟩ := hvr.five fc_five k hlt
      cases hvv
      have hd : ∀ W : World, Below w1.heap.size w1 W → ∀ j u, j < 5 → (It.fc D[k])[j]? = some u → W.cell? ⟨b, o + k * 5 + j, none⟩ = some u := fun W hW j u hj hu => by rw [hW.cell (p := ⟨b, o + k * 5 + j, none⟩) hbl, Nat.add_assoc]; exact hc j u hj hu
      obtain ⟨bu, ou, capu, huu, hbu, hcu⟩ := hur.one k (by simpa using hlt)
      cases huu
      have HD : Hid (∀ W : World, Below w1.heap.size w1 W → ∀ j u, j < 5 → (It.fc D[k])[j]? = some u → W.cell? ⟨b, o + k * 5 + j, none⟩ = some u) := hd
      have HU : Hid (∀ W : World, Below w1.heap.size w1 W → W.cell? ⟨bu, ou + k, none⟩ = some (.int .i64 (cnt D[k] xs : Nat))) := fun W hW => by rw [hW.cell (p := ⟨bu, ou + k, none⟩) hbu, hcu]; simp
      have hcl := cnt_le D[k] xs
      clear hc hcu hd
      go_wp2
      go_loopw [7, 8] (fun nn t wr => ∃ j : Nat, j ≤ xs.length ∧ t = .int .i64 j ∧ nn = .int .i64 (cnt D[k] (xs.take j) : Nat) ∧ Below w1.heap.size w1 wr) (fun _ t _ => xs.length - (intOf t).toNat)
      case atStart => exact ⟨0, Nat.zero_le _, rfl, rfl, hb⟩
      case round =>
        obtain ⟨j, hj, rfl, rfl, hbj⟩ := hrel
        by_cases hltj : j < xs.length
        · obtain ⟨b2, o2, cap2, hv2, hbl2, hc2⟩ := hr1.five fc_five j hltj
          cases hv2
          have hcr : ∀ i u, i < 5 → (It.fc xs[j])[i]? = some u → wr.cell? ⟨b2, o2 + j * 5 + i, none⟩ = some u := fun i u hi hu => by rw [hbj.cell (p := ⟨b2, o2 + j * 5 + i, none⟩) hbl2, Nat.add_assoc]; exact hc2 i u hi hu
          have s0 : wr.cell? ⟨b2, o2 + j * 5, none⟩ = some (.int .i64 xs[j].k) := hcr 0 _ (by omega) rfl
          have s1 := hcr 1 _ (by omega) rfl
          have s2 := hcr 2 _ (by omega) rfl
          have s3 := hcr 3 _ (by omega) rfl
          have s4 := hcr 4 _ (by omega) rfl
          have hdr := HD.out wr hbj
          have d0 : wr.cell? ⟨b, o + k * 5, none⟩ = some (.int .i64 D[k].k) := hdr 0 _ (by omega) rfl
          have d1 := hdr 1 _ (by omega) rfl
          have d2 := hdr 2 _ (by omega) rfl
          have d3 := hdr 3 _ (by omega) rfl
          have d4 := hdr 4 _ (by omega) rfl
          have he := eql_items (HOk.out xs[j] (List.getElem_mem hltj)) (HOd.out D[k] (List.getElem_mem hlt))
          have HT : Hid (cnt D[k] (xs.take (j + 1)) = cnt D[k] (xs.take j) + (if It.same xs[j] D[k] then 1 else 0)) := by
            show _ = _
            rw [same_comm]; exact cnt_take D[k] xs j hltj
          have hcj : cnt D[k] (xs.take j) ≤ j := Nat.le_trans (cnt_le _ _) (by simp; omega)
          unfold It.v at he
          clear hc2 hcr hdr
          cases hsm : It.same xs[j] D[k]
          · rw [hsm] at he HT
            go_wp2
            go_quiet (fail)
            go_wp2
            exact ⟨⟨j + 1, by omega, by go_num, by rw [HT.out]; simp, below_drewN hbj _⟩, by simp [intOf]; omega⟩
          · rw [hsm] at he HT
            go_wp2
            go_quiet (fail)
            go_wp2
            exact ⟨⟨j + 1, by omega, by go_num, by rw [HT.out]; simp, below_drewN hbj _⟩, by simp [intOf]; omega⟩
        · obtain rfl : j = xs.length := by omega
          rw [List.take_length]
          have hcu := HU.out _ hbj
          go_wp2
          exact ⟨⟨k + 1, by omega, by go_num, by rw [HTT.out k hlt]; simp, hbj⟩, by simp [intOf]; omega⟩
    · obtain rfl : k = D.length := by omega
      rw [List.take_length, HTd.out]
      go_wp2
      go_ret
      exact ⟨rfl, hb1.trans (hb.mono hb1.size)⟩
end Go.Proofs.YtfjdogpjckipbaaGreatDoor
