/- Walks of the document's own answers of chapter 2, but for the lists. -/
import Derived.Test.YteibaiflljcghaaDoorA2
import Derived.Test.YteibaiflljcghaaDoorM1
namespace Go.Proofs.YteibaiflljcghaaDoor
open Go.RowKit
set_option maxHeartbeats 1000000 in
set_option maxRecDepth 100000 in
theorem refMay_any (m k : Int) (w : World) :
    Calls Tryd.prog 48 #[.int .i64 m, .int .i64 k] w fun e w' => e = .returned (.bool (mayB m k)) ∧ w' = w := by
  by_cases c0 : 1 ≤ m
  · by_cases c1 : m ≤ k
    · have H : Hid (mayB m k = decide (k ≤ 6)) := by show _ = _; unfold mayB; simp [c0, c1]
      go_enter Tryd.func48, Tryd.ntmps48
      go_wp2
      go_ret
      exact ⟨ret_b H.out.symm, rfl⟩
    · have H : Hid (mayB m k = false) := by show _ = _; unfold mayB; simp [c1]
      go_enter Tryd.func48, Tryd.ntmps48
      go_wp2
      go_ret
      exact ⟨ret_b H.out.symm, rfl⟩
  · have H : Hid (mayB m k = false) := by show _ = _; unfold mayB; simp [c0]
    go_enter Tryd.func48, Tryd.ntmps48
    go_wp2
    go_ret
    exact ⟨ret_b H.out.symm, rfl⟩

set_option maxHeartbeats 1000000 in
set_option maxRecDepth 100000 in
theorem refIn_any (j : Int) (w : World) :
    Calls Tryd.prog 49 #[.int .i64 j] w fun e w' => e = .returned (.bool (jobB j)) ∧ w' = w := by
  by_cases c0 : 0 ≤ j
  · have H : Hid (jobB j = decide (j ≤ 1099511627776)) := by show _ = _; unfold jobB; simp [c0]
    go_enter Tryd.func49, Tryd.ntmps49
    go_wp2
    go_ret
    exact ⟨ret_b H.out.symm, rfl⟩
  · have H : Hid (jobB j = false) := by show _ = _; unfold jobB; simp [c0]
    go_enter Tryd.func49, Tryd.ntmps49
    go_wp2
    go_ret
    exact ⟨ret_b H.out.symm, rfl⟩

theorem du_quo {m k n : Int} (m0 : 1 ≤ m) (mk : m ≤ k) (k6 : k ≤ 6) : du m k n = (if n * m / k * k < n * m then n * m / k + 1 else n * m / k) := by
  unfold du
  generalize n * m = x
  rcases six (show 1 ≤ k by omega) k6 with rfl | rfl | rfl | rfl | rfl | rfl <;> unfold cl <;> split <;> split <;> omega

set_option maxHeartbeats 1000000 in
set_option maxRecDepth 100000 in
theorem refMost_any (m k n : Int) (w : World) :
    Calls Tryd.prog 33 #[.int .i64 m, .int .i64 k, .int .i64 n] w fun e w' => e = .returned (.int .i64 (mostV m k n)) ∧ w' = w := by
  cases h1 : mayB m k
  · have H : Hid (mostV m k n = 0) := by show _ = _; unfold mostV; rw [h1]; rfl
    have H1 : Hid (mayB m k = false) := h1
    clear h1
    go_enter Tryd.func33, Tryd.ntmps33
    go_wp2_with fail
    refine (refMay_any m k _).mono ?_
    rintro e w1 ⟨rfl, rfl⟩
    rw [H1.out]
    go_wp2_with fail
    refine (refIn_any n _).mono ?_
    rintro e w1 ⟨rfl, rfl⟩
    go_wp2
    go_ret
    exact ⟨ret_i H.out.symm, rfl⟩
  · have H1 : Hid (mayB m k = true) := h1
    cases h2 : jobB n
    · have H : Hid (mostV m k n = 0) := by show _ = _; unfold mostV; rw [h1, h2]; rfl
      have H2 : Hid (jobB n = false) := h2
      clear h1 h2
      go_enter Tryd.func33, Tryd.ntmps33
      go_wp2_with fail
      refine (refMay_any m k _).mono ?_
      rintro e w1 ⟨rfl, rfl⟩
      rw [H1.out]
      go_wp2_with fail
      refine (refIn_any n _).mono ?_
      rintro e w1 ⟨rfl, rfl⟩
      rw [H2.out]
      go_wp2
      go_ret
      exact ⟨ret_i H.out.symm, rfl⟩
    · have H : Hid (mostV m k n = du m k n) := by show _ = _; unfold mostV; rw [h1, h2]; rfl
      have H2 : Hid (jobB n = true) := h2
      obtain ⟨m0, mk, k6⟩ := mayB_of h1
      obtain ⟨n0, n1⟩ := jobB_of h2
      clear h1 h2
      have HQ : Hid _ := du_quo (n := n) m0 mk k6
      obtain ⟨p0, p1⟩ := mul_bd m0 (show m ≤ 6 by omega) n0 n1
      have q0 : 0 ≤ n * m / k := Int.ediv_nonneg p0 (by omega)
      have q1 : n * m / k ≤ n * m := Int.ediv_le_self _ p0
      have q2 : 0 ≤ n * m / k * k := Int.mul_nonneg q0 (by omega)
      have q3 : n * m / k * k ≤ n * m := Int.ediv_mul_le _ (by omega)
      by_cases hl : n * m / k * k < n * m
      · have HR : Hid (du m k n = n * m / k + 1) := by show _ = _; have := HQ.out; rw [if_pos hl] at this; exact this
        go_enter Tryd.func33, Tryd.ntmps33
        go_wp2_with fail
        refine (refMay_any m k _).mono ?_
        rintro e w1 ⟨rfl, rfl⟩
        rw [H1.out]
        go_wp2_with fail
        refine (refIn_any n _).mono ?_
        rintro e w1 ⟨rfl, rfl⟩
        rw [H2.out]
        go_wp2
        go_ret
        exact ⟨ret_i (H.out.trans HR.out).symm, rfl⟩
      · have HR : Hid (du m k n = n * m / k) := by show _ = _; have := HQ.out; rw [if_neg hl] at this; exact this
        go_enter Tryd.func33, Tryd.ntmps33
        go_wp2_with fail
        refine (refMay_any m k _).mono ?_
        rintro e w1 ⟨rfl, rfl⟩
        rw [H1.out]
        go_wp2_with fail
        refine (refIn_any n _).mono ?_
        rintro e w1 ⟨rfl, rfl⟩
        rw [H2.out]
        go_wp2
        go_ret
        exact ⟨ret_i (H.out.trans HR.out).symm, rfl⟩
end Go.Proofs.YteibaiflljcghaaDoor
