/- Walks of the document's own Cmp (whole parts first, then what is left, the other way round) and Beats. -/
import Derived.Test.YtjaaabliefcgaaaW3
namespace Go.Proofs.Ytjaaabliefcgaaa
open Go.RowKit
theorem tri_bd {k s : Int} (h0 : 0 ≤ k) (h : k ≤ 1048576) (s0 : 0 ≤ s) (hs : s ≤ 1048576) : 0 ≤ k * s ∧ k * s ≤ 1099511627776 ∧ 0 ≤ k * s * s ∧ k * s * s ≤ 1152921504606846976 := by
  have p := Int.mul_nonneg h0 s0
  have q := Int.mul_le_mul h hs s0 (by omega)
  have p2 := Int.mul_nonneg p s0
  have q2 : k * s * s ≤ 1099511627776 * 1048576 := Int.mul_le_mul (by omega) hs s0 (by omega)
  omega

theorem bt_in {v s k : Int} (hv0 : 0 ≤ v) (hv : v ≤ 1048576) (hs0 : 0 ≤ s) (hs : s ≤ 1048576) (hk0 : 0 ≤ k) (hk : k ≤ 1048576) (hlt : s < v) : decide (k * s * s < (v - s) * (v - s)) = bt v s k := by
  unfold bt
  rw [Int.mul_assoc]
  exact decide_eq_decide.2 ⟨fun h => ⟨hv0, hv, hs0, hs, hk0, hk, hlt, h⟩, fun h => h.2.2.2.2.2.2.2⟩

set_option maxHeartbeats 4000000 in
set_option maxRecDepth 100000 in
theorem refBeats_any (v s k : Int) (w : World) :
    Calls Try.prog 29 #[.int .i64 v, .int .i64 s, .int .i64 k] w fun e w' => e = .returned (.bool (bt v s k)) ∧ w' = w := by
  by_cases h : 0 ≤ v ∧ v ≤ 1048576 ∧ 0 ≤ s ∧ s ≤ 1048576 ∧ 0 ≤ k ∧ k ≤ 1048576 ∧ s < v
  · obtain ⟨hv0, hv, hs0, hs, hk0, hk, hlt⟩ := h
    have HB : Hid _ := bt_in hv0 hv hs0 hs hk0 hk hlt
    obtain ⟨b1, b2, b3, b4⟩ := tri_bd hk0 hk hs0 hs
    obtain ⟨d1, d2⟩ := sq_bd (x := v - s) (by omega) (by omega)
    go_enter Try.func29, Try.ntmps29
    go_wp2
    go_ret
    exact ⟨ret_b HB.out, rfl⟩
  · rw [bt_no h]
    by_cases c0 : v < 0
    · clear h
      go_enter Try.func29, Try.ntmps29
      go_wp2
      go_ret
      exact ⟨rfl, rfl⟩
    · by_cases c1 : s < 0
      · clear h
        go_enter Try.func29, Try.ntmps29
        go_wp2
        go_ret
        exact ⟨rfl, rfl⟩
      · by_cases c2 : k < 0
        · clear h
          go_enter Try.func29, Try.ntmps29
          go_wp2
          go_ret
          exact ⟨rfl, rfl⟩
        · by_cases c3 : 1048576 < v
          · clear h
            go_enter Try.func29, Try.ntmps29
            go_wp2
            go_ret
            exact ⟨rfl, rfl⟩
          · by_cases c4 : 1048576 < s
            · clear h
              go_enter Try.func29, Try.ntmps29
              go_wp2
              go_ret
              exact ⟨rfl, rfl⟩
            · by_cases c5 : 1048576 < k
              · clear h
                go_enter Try.func29, Try.ntmps29
                go_wp2
                go_ret
                exact ⟨rfl, rfl⟩
              · have c6 : ¬ s < v := by omega
                clear h
                go_enter Try.func29, Try.ntmps29
                go_wp2
                go_ret
                exact ⟨rfl, rfl⟩
end Go.Proofs.Ytjaaabliefcgaaa
