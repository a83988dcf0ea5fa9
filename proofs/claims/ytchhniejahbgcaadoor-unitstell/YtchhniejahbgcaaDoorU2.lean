/- Walks of Fits of package units, and of the document's own Sum and Fits. -/
import Derived.Test.YtchhniejahbgcaaDoorU1
namespace Go.Proofs.YtchhniejahbgcaaDoor
open Go.RowKit

set_option maxHeartbeats 1000000 in
set_option maxRecDepth 100000 in
theorem fits_any (ks : List Int) (v : Value) (w : World) (h : Nums w v ks) (hL : Lim w) :
    Calls Tryd.prog 17 #[v] w fun e w' => e = .returned (.bool (fitB6 ks)) ∧ w' = w := by
  have HS := sum_any ks v w h hL
  obtain ⟨a, cap, rfl, h1, h2, h3⟩ := h
  obtain ⟨l0, l1, l2⟩ := hL
  clear h3
  cases hb : sumB ks
  · have H : Hid (sumB ks = false) := hb
    have HF : Hid (fitB6 ks = false) := by show _ = _; unfold fitB6; rw [hb]; rfl
    clear hb
    go_enter Tryd.func17, Tryd.ntmps17
    go_wp2_with fail
    refine HS.mono ?_
    rintro e w1 ⟨rfl, rfl⟩
    rw [H.out]
    go_wp2
    go_ret
    exact ⟨ret_b HF.out.symm, rfl⟩
  · have H : Hid (sumB ks = true) := hb
    have HF : Hid (fitB6 ks = decide (sumV ks ≤ 983040)) := by show _ = _; unfold fitB6; rw [hb]; rfl
    clear hb
    go_enter Tryd.func17, Tryd.ntmps17
    go_wp2_with fail
    refine HS.mono ?_
    rintro e w1 ⟨rfl, rfl⟩
    rw [H.out]
    go_wp2
    go_ret
    exact ⟨ret_b HF.out.symm, rfl⟩

set_option maxHeartbeats 1000000 in
set_option maxRecDepth 100000 in
theorem refSum_any (ks : List Int) (v : Value) (w : World) (h : Nums w v ks) :
    Calls Tryd.prog 10 #[v] w fun e w' => e = .returned (.tuple #[.int .i64 (sumV ks), .bool (sumB ks)]) ∧ w' = w := by
  obtain ⟨a, cap, rfl, h1, h2, h3⟩ := h
  go_enter Tryd.func10, Tryd.ntmps10
  go_wp2_with fail
  go_loop [4, 5] (fun s i => ∃ (j : Nat) (z : Int), j ≤ ks.length ∧ i = .int .i64 j ∧ s = .int .i64 z ∧ 0 ≤ z ∧ z ≤ j * 1099511627776 ∧ j ≤ 1000 ∧ Hid (z = (ks.take j).sum ∧ (ks.take j).all unB = true ∧ (j ≠ 0 → ks.length ≤ 1000))) (fun _ i => ((ks.length : Int) - intOf i).toNat)
  case atStart => exact ⟨0, 0, by omega, rfl, rfl, by omega, by omega, by omega, by simp, by simp, fun h => absurd rfl h⟩
  case round =>
    obtain ⟨j, z, hj, rfl, rfl, z0, z1, j1, HZ⟩ := hrel
    by_cases hlt : (j : Int) < ks.length
    · obtain ⟨b, o, rfl, h4⟩ := h3 (by intro e; rw [e, List.length_nil] at hlt; omega)
      have hc := h4 j (by omega)
      clear h4 h3
      obtain ⟨x, hx⟩ : ∃ x, ks.getD j 0 = x := ⟨_, rfl⟩
      have HX : Hid (ks.getD j 0 = x) := hx
      rw [hx] at hc
      clear hx
      have HB : Hid (∀ q, unB x = q → unB (ks.getD j 0) = q) := by intro q hq; rw [HX.out]; exact hq
      by_cases c0 : x < 0
      · have H : Hid (sumB ks = false) := sumB_bad (j := j) (by omega) (HB.out _ (by unfold unB wiB; exact decide_eq_false (by omega)))
        go_wp2
        go_ret2
        exact ⟨ret_ib (sum_no H.out).symm H.out.symm, rfl⟩
      · by_cases c1 : x > 1099511627776
        · have H : Hid (sumB ks = false) := sumB_bad (j := j) (by omega) (HB.out _ (by unfold unB wiB; exact decide_eq_false (by omega)))
          go_wp2
          go_ret2
          exact ⟨ret_ib (sum_no H.out).symm H.out.symm, rfl⟩
        · by_cases c2 : (ks.length : Int) > 1000
          · have H : Hid (sumB ks = false) := sumB_long (by omega)
            go_wp2
            go_ret2
            exact ⟨ret_ib (sum_no H.out).symm H.out.symm, rfl⟩
          · have ho : unB x = true := by unfold unB wiB; exact decide_eq_true (by omega)
            have HA : Hid ((ks.take (j + 1)).all unB = true) := take_all (j := j) (by omega) HZ.out.2.1 (HB.out _ ho)
            have HS : Hid (z + x = (ks.take (j + 1)).sum) := by show _ = _; rw [take_sum (by omega), HX.out, ← HZ.out.1]
            clear ho
            go_wp2_with fail
            go_round
            case rel => exact ⟨j + 1, z + x, by omega, by go_num, by go_num, by omega, by omega, by omega, HS.out, HA.out, fun _ => by omega⟩
            case measure => simp [intOf]; omega
    · obtain rfl : j = ks.length := by omega
      have H : Hid (sumB ks = true) := sumB_good (by omega) HZ.out.2.1
      have HS : Hid (z = sumV ks) := by show _ = _; rw [sum_yes H.out, HZ.out.1, List.take_length]
      go_wp2
      go_ret2
      exact ⟨ret_ib HS.out H.out.symm, rfl⟩

set_option maxHeartbeats 1000000 in
set_option maxRecDepth 100000 in
theorem refFits_any (ks : List Int) (v : Value) (w : World) (h : Nums w v ks) :
    Calls Tryd.prog 18 #[v] w fun e w' => e = .returned (.bool (fitB6 ks)) ∧ w' = w := by
  have HS := refSum_any ks v w h
  obtain ⟨a, cap, rfl, h1, h2, h3⟩ := h
  clear h3
  cases hb : sumB ks
  · have H : Hid (sumB ks = false) := hb
    have HF : Hid (fitB6 ks = false) := by show _ = _; unfold fitB6; rw [hb]; rfl
    clear hb
    go_enter Tryd.func18, Tryd.ntmps18
    go_wp2_with fail
    refine HS.mono ?_
    rintro e w1 ⟨rfl, rfl⟩
    rw [H.out]
    go_wp2
    go_ret
    exact ⟨ret_b HF.out.symm, rfl⟩
  · have H : Hid (sumB ks = true) := hb
    have HF : Hid (fitB6 ks = decide (sumV ks ≤ 983040)) := by show _ = _; unfold fitB6; rw [hb]; rfl
    clear hb
    go_enter Tryd.func18, Tryd.ntmps18
    go_wp2_with fail
    refine HS.mono ?_
    rintro e w1 ⟨rfl, rfl⟩
    rw [H.out]
    go_wp2
    go_ret
    exact ⟨ret_b HF.out.symm, rfl⟩
end Go.Proofs.YtchhniejahbgcaaDoor
