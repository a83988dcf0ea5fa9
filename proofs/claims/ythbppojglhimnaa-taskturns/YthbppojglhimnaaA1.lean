/- Walks of package pat, for all arguments: May, On, Count and Most. -/
import Derived.Test.YthbppojglhimnaaW4
import Derived.Test.YthbppojglhimnaaW1
import Derived.ChangeKeysEq
import Derived.Lib.Mul64
namespace Go.Proofs.Ythbppojglhimnaa
open Go.RowKit

def mayB (m k : Int) : Bool := decide (1 ≤ m ∧ m ≤ k ∧ k ≤ 6)
def jobB (j : Int) : Bool := decide (0 ≤ j ∧ j ≤ 1099511627776)
/-- How many of the first n jobs are mandatory. -/
def du (m k n : Int) : Int := cl (n * m) k
def adB (m k j : Int) : Bool := decide (du m k j < du m k (j + 1))
def onB (m k j : Int) : Bool := mayB m k && jobB j && adB m k j
theorem mul_bd {m n c : Int} (m0 : 1 ≤ m) (m6 : m ≤ 6) (n0 : 0 ≤ n) (n1 : n ≤ c) : 0 ≤ n * m ∧ n * m ≤ c * 6 :=
  ⟨Int.mul_nonneg n0 (by omega), by
    have h1 : n * m ≤ n * 6 := Int.mul_le_mul_of_nonneg_left m6 n0
    have h2 : n * 6 ≤ c * 6 := Int.mul_le_mul_of_nonneg_right n1 (by omega)
    omega⟩

set_option maxHeartbeats 1000000 in
set_option maxRecDepth 100000 in
theorem may_any (m k : Int) (w : World) :
    Calls Try.prog 19 #[.int .i64 m, .int .i64 k] w fun e w' => e = .returned (.bool (mayB m k)) ∧ w' = w := by
  by_cases c0 : 1 ≤ m
  · by_cases c1 : m ≤ k
    · have H : Hid (mayB m k = decide (k ≤ 6)) := by show _ = _; unfold mayB; simp [c0, c1]
      go_enter Try.func19, Try.ntmps19
      go_wp2
      go_ret
      exact ⟨ret_b H.out.symm, rfl⟩
    · have H : Hid (mayB m k = false) := by show _ = _; unfold mayB; simp [c1]
      go_enter Try.func19, Try.ntmps19
      go_wp2
      go_ret
      exact ⟨ret_b H.out.symm, rfl⟩
  · have H : Hid (mayB m k = false) := by show _ = _; unfold mayB; simp [c0]
    go_enter Try.func19, Try.ntmps19
    go_wp2
    go_ret
    exact ⟨ret_b H.out.symm, rfl⟩

set_option maxHeartbeats 1000000 in
set_option maxRecDepth 100000 in
theorem isJob_any (j : Int) (w : World) :
    Calls Try.prog 20 #[.int .i64 j] w fun e w' => e = .returned (.bool (jobB j)) ∧ w' = w := by
  by_cases c0 : 0 ≤ j
  · have H : Hid (jobB j = decide (j ≤ 1099511627776)) := by show _ = _; unfold jobB; simp [c0]
    go_enter Try.func20, Try.ntmps20
    go_wp2
    go_ret
    exact ⟨ret_b H.out.symm, rfl⟩
  · have H : Hid (jobB j = false) := by show _ = _; unfold jobB; simp [c0]
    go_enter Try.func20, Try.ntmps20
    go_wp2
    go_ret
    exact ⟨ret_b H.out.symm, rfl⟩

set_option maxHeartbeats 1000000 in
set_option maxRecDepth 100000 in
theorem due_in (m k n : Int) (w : World) (m0 : 1 ≤ m) (mk : m ≤ k) (k6 : k ≤ 6) (n0 : 0 ≤ n) (n1 : n ≤ 2199023255554) :
    Calls Try.prog 28 #[.int .i64 m, .int .i64 k, .int .i64 n] w fun e w' => e = .returned (.int .i64 (du m k n)) ∧ Below w.heap.size w w' := by
  obtain ⟨p0, p1⟩ := mul_bd m0 (show m ≤ 6 by omega) n0 n1
  go_enter Try.func28, Try.ntmps28
  go_wp2_with fail
  refine (ceil_yes (n * m) k _ p0 (by omega) (by omega) (by omega)).mono ?_
  rintro e w1 ⟨rfl, hb1⟩
  go_wp2
  go_ret
  exact ⟨rfl, hb1⟩

set_option maxHeartbeats 1000000 in
set_option maxRecDepth 100000 in
theorem adds_in (m k j : Int) (w : World) (m0 : 1 ≤ m) (mk : m ≤ k) (k6 : k ≤ 6) (n0 : 0 ≤ j) (n1 : j ≤ 1099511627776) :
    Calls Try.prog 21 #[.int .i64 m, .int .i64 k, .int .i64 j] w fun e w' => e = .returned (.bool (adB m k j)) ∧ Below w.heap.size w w' := by
  go_enter Try.func21, Try.ntmps21
  go_wp2_with fail
  refine (due_in m k (j + 1) _ m0 mk k6 (by omega) (by omega)).mono ?_
  rintro e w1 ⟨rfl, hb1⟩
  go_wp2_with fail
  refine (due_in m k j _ m0 mk k6 (by omega) (by omega)).mono ?_
  rintro e w2 ⟨rfl, hb2⟩
  have s1 := hb1.size
  go_wp2
  go_ret
  exact ⟨rfl, hb1.trans (hb2.mono (by omega))⟩

theorem mayB_of {m k : Int} (h : mayB m k = true) : 1 ≤ m ∧ m ≤ k ∧ k ≤ 6 := of_decide_eq_true h
theorem jobB_of {j : Int} (h : jobB j = true) : 0 ≤ j ∧ j ≤ 1099511627776 := of_decide_eq_true h

set_option maxHeartbeats 1000000 in
set_option maxRecDepth 100000 in
theorem on_any (m k j : Int) (w : World) :
    Calls Try.prog 9 #[.int .i64 m, .int .i64 k, .int .i64 j] w fun e w' => e = .returned (.bool (onB m k j)) ∧ Below w.heap.size w w' := by
  cases h1 : mayB m k
  · have H : Hid (onB m k j = false) := by show _ = _; unfold onB; rw [h1]; rfl
    have H1 : Hid (mayB m k = false) := h1
    clear h1
    go_enter Try.func9, Try.ntmps9
    go_wp2_with fail
    refine (may_any m k _).mono ?_
    rintro e w1 ⟨rfl, rfl⟩
    rw [H1.out]
    go_wp2
    go_ret
    exact ⟨ret_b H.out.symm, Below.refl _ _⟩
  · have H1 : Hid (mayB m k = true) := h1
    cases h2 : jobB j
    · have H : Hid (onB m k j = false) := by show _ = _; unfold onB; rw [h1, h2]; rfl
      have H2 : Hid (jobB j = false) := h2
      clear h1 h2
      go_enter Try.func9, Try.ntmps9
      go_wp2_with fail
      refine (may_any m k _).mono ?_
      rintro e w1 ⟨rfl, rfl⟩
      rw [H1.out]
      go_wp2_with fail
      refine (isJob_any j _).mono ?_
      rintro e w1 ⟨rfl, rfl⟩
      rw [H2.out]
      go_wp2
      go_ret
      exact ⟨ret_b H.out.symm, Below.refl _ _⟩
    · have H : Hid (onB m k j = adB m k j) := by show _ = _; unfold onB; rw [h1, h2]; rfl
      have H2 : Hid (jobB j = true) := h2
      obtain ⟨m0, mk, k6⟩ := mayB_of h1
      obtain ⟨j0, j1⟩ := jobB_of h2
      clear h1 h2
      go_enter Try.func9, Try.ntmps9
      go_wp2_with fail
      refine (may_any m k _).mono ?_
      rintro e w1 ⟨rfl, rfl⟩
      rw [H1.out]
      go_wp2_with fail
      refine (isJob_any j _).mono ?_
      rintro e w1 ⟨rfl, rfl⟩
      rw [H2.out]
      go_wp2_with fail
      refine (adds_in m k j _ m0 mk k6 j0 j1).mono ?_
      rintro e w1 ⟨rfl, hb1⟩
      go_wp2
      go_ret
      exact ⟨ret_b H.out.symm, hb1⟩
end Go.Proofs.Ythbppojglhimnaa
