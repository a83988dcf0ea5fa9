/- Walks of the document's own answers of chapter 2, but for the lists. -/
import Derived.Test.YtigaboifjhkfmaaA2
import Derived.Test.YtigaboifjhkfmaaM1
namespace Go.Proofs.Ytigaboifjhkfmaa
open Go.RowKit

/-- By what is left. -/
def evB (m k j : Int) : Bool := decide (j * m % k = 0 ∨ k - m < j * m % k)

theorem evB_eq {m k j : Int} (m0 : 1 ≤ m) (mk : m ≤ k) (k6 : k ≤ 6) : evB m k j = adB m k j := by
  unfold evB adB du
  rw [Int.add_mul]
  generalize j * m = x
  congr 1; apply propext
  rcases six (show 1 ≤ k by omega) k6 with rfl | rfl | rfl | rfl | rfl | rfl <;> unfold cl <;> split <;> split <;> constructor <;> intro h <;> omega

theorem cl_whole {x q k : Int} (h : 1 ≤ k) (h' : k ≤ 6) : cl (x + k * q) k = cl x k + q := by
  rcases six h h' with rfl | rfl | rfl | rfl | rfl | rfl <;> unfold cl <;> split <;> split <;> omega

theorem du_whole {m k x q : Int} (m0 : 1 ≤ m) (mk : m ≤ k) (k6 : k ≤ 6) : du m k (x + k * q) = du m k x + q * m := by
  unfold du
  rw [Int.add_mul, Int.mul_assoc]
  exact cl_whole (by omega) k6

set_option maxHeartbeats 1000000 in
set_option maxRecDepth 100000 in
theorem refMay_any (m k : Int) (w : World) :
    Calls Try.prog 15 #[.int .i64 m, .int .i64 k] w fun e w' => e = .returned (.bool (mayB m k)) ∧ w' = w := by
  by_cases c0 : 1 ≤ m
  · by_cases c1 : m ≤ k
    · have H : Hid (mayB m k = decide (k ≤ 6)) := by show _ = _; unfold mayB; simp [c0, c1]
      go_enter Try.func15, Try.ntmps15
      go_wp2
      go_ret
      exact ⟨ret_b H.out.symm, rfl⟩
    · have H : Hid (mayB m k = false) := by show _ = _; unfold mayB; simp [c1]
      go_enter Try.func15, Try.ntmps15
      go_wp2
      go_ret
      exact ⟨ret_b H.out.symm, rfl⟩
  · have H : Hid (mayB m k = false) := by show _ = _; unfold mayB; simp [c0]
    go_enter Try.func15, Try.ntmps15
    go_wp2
    go_ret
    exact ⟨ret_b H.out.symm, rfl⟩

set_option maxHeartbeats 1000000 in
set_option maxRecDepth 100000 in
theorem refIn_any (j : Int) (w : World) :
    Calls Try.prog 25 #[.int .i64 j] w fun e w' => e = .returned (.bool (jobB j)) ∧ w' = w := by
  by_cases c0 : 0 ≤ j
  · have H : Hid (jobB j = decide (j ≤ 1099511627776)) := by show _ = _; unfold jobB; simp [c0]
    go_enter Try.func25, Try.ntmps25
    go_wp2
    go_ret
    exact ⟨ret_b H.out.symm, rfl⟩
  · have H : Hid (jobB j = false) := by show _ = _; unfold jobB; simp [c0]
    go_enter Try.func25, Try.ntmps25
    go_wp2
    go_ret
    exact ⟨ret_b H.out.symm, rfl⟩

set_option maxHeartbeats 1000000 in
set_option maxRecDepth 100000 in
theorem refEven_in (m k j : Int) (w : World) (m0 : 1 ≤ m) (mk : m ≤ k) (k6 : k ≤ 6) (n0 : 0 ≤ j) (n1 : j ≤ 2199023255552) :
    Calls Try.prog 26 #[.int .i64 m, .int .i64 k, .int .i64 j] w fun e w' => e = .returned (.bool (adB m k j)) ∧ w' = w := by
  obtain ⟨p0, p1⟩ := mul_bd m0 (show m ≤ 6 by omega) n0 n1
  have r0 : 0 ≤ j * m % k := Int.emod_nonneg _ (by omega)
  have r1 : j * m % k < k := Int.emod_lt_of_pos _ (by omega)
  have HE : Hid (evB m k j = adB m k j) := evB_eq m0 mk k6
  cases hz : (j * m % k == 0)
  · have H : Hid (evB m k j = decide (k - m < j * m % k)) := by
      show _ = _
      have hz' : ¬ (j * m % k = 0) := by simpa using hz
      unfold evB; simp [hz']
    go_enter Try.func26, Try.ntmps26
    go_wp2
    go_ret
    exact ⟨ret_b (H.out.symm.trans HE.out), rfl⟩
  · have H : Hid (evB m k j = true) := by
      show _ = _
      have hz' : j * m % k = 0 := by simpa using hz
      unfold evB; simp [hz']
    go_enter Try.func26, Try.ntmps26
    go_wp2
    go_ret
    exact ⟨ret_b (H.out.symm.trans HE.out), rfl⟩

set_option maxHeartbeats 1000000 in
set_option maxRecDepth 100000 in
theorem refOn_any (m k j : Int) (w : World) :
    Calls Try.prog 17 #[.int .i64 m, .int .i64 k, .int .i64 j] w fun e w' => e = .returned (.bool (onB m k j)) ∧ w' = w := by
  cases h1 : mayB m k
  · have H : Hid (onB m k j = false) := by show _ = _; unfold onB; rw [h1]; rfl
    have H1 : Hid (mayB m k = false) := h1
    clear h1
    go_enter Try.func17, Try.ntmps17
    go_wp2_with fail
    refine (refMay_any m k _).mono ?_
    rintro e w1 ⟨rfl, rfl⟩
    rw [H1.out]
    go_wp2_with fail
    refine (refIn_any j _).mono ?_
    rintro e w1 ⟨rfl, rfl⟩
    go_wp2
    go_ret
    exact ⟨ret_b H.out.symm, rfl⟩
  · have H1 : Hid (mayB m k = true) := h1
    cases h2 : jobB j
    · have H : Hid (onB m k j = false) := by show _ = _; unfold onB; rw [h1, h2]; rfl
      have H2 : Hid (jobB j = false) := h2
      clear h1 h2
      go_enter Try.func17, Try.ntmps17
      go_wp2_with fail
      refine (refMay_any m k _).mono ?_
      rintro e w1 ⟨rfl, rfl⟩
      rw [H1.out]
      go_wp2_with fail
      refine (refIn_any j _).mono ?_
      rintro e w1 ⟨rfl, rfl⟩
      rw [H2.out]
      go_wp2
      go_ret
      exact ⟨ret_b H.out.symm, rfl⟩
    · have H : Hid (onB m k j = adB m k j) := by show _ = _; unfold onB; rw [h1, h2]; rfl
      have H2 : Hid (jobB j = true) := h2
      obtain ⟨m0, mk, k6⟩ := mayB_of h1
      obtain ⟨j0, j1⟩ := jobB_of h2
      clear h1 h2
      go_enter Try.func17, Try.ntmps17
      go_wp2_with fail
      refine (refMay_any m k _).mono ?_
      rintro e w1 ⟨rfl, rfl⟩
      rw [H1.out]
      go_wp2_with fail
      refine (refIn_any j _).mono ?_
      rintro e w1 ⟨rfl, rfl⟩
      rw [H2.out]
      go_wp2_with fail
      refine (refEven_in m k j _ m0 mk k6 j0 (by omega)).mono ?_
      rintro e w1 ⟨rfl, rfl⟩
      go_wp2
      go_ret
      exact ⟨ret_b H.out.symm, rfl⟩

theorem du_quo {m k n : Int} (m0 : 1 ≤ m) (mk : m ≤ k) (k6 : k ≤ 6) : du m k n = (if n * m / k * k < n * m then n * m / k + 1 else n * m / k) := by
  unfold du
  generalize n * m = x
  rcases six (show 1 ≤ k by omega) k6 with rfl | rfl | rfl | rfl | rfl | rfl <;> unfold cl <;> split <;> split <;> omega

set_option maxHeartbeats 1000000 in
set_option maxRecDepth 100000 in
theorem refMost_any (m k n : Int) (w : World) :
    Calls Try.prog 21 #[.int .i64 m, .int .i64 k, .int .i64 n] w fun e w' => e = .returned (.int .i64 (mostV m k n)) ∧ w' = w := by
  cases h1 : mayB m k
  · have H : Hid (mostV m k n = 0) := by show _ = _; unfold mostV; rw [h1]; rfl
    have H1 : Hid (mayB m k = false) := h1
    clear h1
    go_enter Try.func21, Try.ntmps21
    go_wp2_with fail
    refine (refMay_any m k _).mono ?_
    rintro e w1 ⟨rfl, rfl⟩
    rw [H1.out]
    go_wp2_with fail
    refine (refIn_any n _).mono ?_
    rintro e w1 ⟨rfl, rfl⟩
    go_wp2
    go_ret
    exact ⟨ret_i H.out.symm, rfl⟩
  · have H1 : Hid (mayB m k = true) := h1
    cases h2 : jobB n
    · have H : Hid (mostV m k n = 0) := by show _ = _; unfold mostV; rw [h1, h2]; rfl
      have H2 : Hid (jobB n = false) := h2
      clear h1 h2
      go_enter Try.func21, Try.ntmps21
      go_wp2_with fail
      refine (refMay_any m k _).mono ?_
      rintro e w1 ⟨rfl, rfl⟩
      rw [H1.out]
      go_wp2_with fail
      refine (refIn_any n _).mono ?_
      rintro e w1 ⟨rfl, rfl⟩
      rw [H2.out]
      go_wp2
      go_ret
      exact ⟨ret_i H.out.symm, rfl⟩
    · have H : Hid (mostV m k n = du m k n) := by show _ = _; unfold mostV; rw [h1, h2]; rfl
      have H2 : Hid (jobB n = true) := h2
      obtain ⟨m0, mk, k6⟩ := mayB_of h1
      obtain ⟨n0, n1⟩ := jobB_of h2
      clear h1 h2
      have HQ : Hid _ := du_quo (n := n) m0 mk k6
      obtain ⟨p0, p1⟩ := mul_bd m0 (show m ≤ 6 by omega) n0 n1
      have q0 : 0 ≤ n * m / k := Int.ediv_nonneg p0 (by omega)
      have q1 : n * m / k ≤ n * m := Int.ediv_le_self _ p0
      have q2 : 0 ≤ n * m / k * k := Int.mul_nonneg q0 (by omega)
      have q3 : n * m / k * k ≤ n * m := Int.ediv_mul_le _ (by omega)
      by_cases hl : n * m / k * k < n * m
      · have HR : Hid (du m k n = n * m / k + 1) := by show _ = _; have := HQ.out; rw [if_pos hl] at this; exact this
        go_enter Try.func21, Try.ntmps21
        go_wp2_with fail
        refine (refMay_any m k _).mono ?_
        rintro e w1 ⟨rfl, rfl⟩
        rw [H1.out]
        go_wp2_with fail
        refine (refIn_any n _).mono ?_
        rintro e w1 ⟨rfl, rfl⟩
        rw [H2.out]
        go_wp2
        go_ret
        exact ⟨ret_i (H.out.trans HR.out).symm, rfl⟩
      · have HR : Hid (du m k n = n * m / k) := by show _ = _; have := HQ.out; rw [if_neg hl] at this; exact this
        go_enter Try.func21, Try.ntmps21
        go_wp2_with fail
        refine (refMay_any m k _).mono ?_
        rintro e w1 ⟨rfl, rfl⟩
        rw [H1.out]
        go_wp2_with fail
        refine (refIn_any n _).mono ?_
        rintro e w1 ⟨rfl, rfl⟩
        rw [H2.out]
        go_wp2
        go_ret
        exact ⟨ret_i (H.out.trans HR.out).symm, rfl⟩
end Go.Proofs.Ytigaboifjhkfmaa
