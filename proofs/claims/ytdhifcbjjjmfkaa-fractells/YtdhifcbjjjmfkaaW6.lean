/- Walks of the document's own Floor, Ceil, Cmp and Beats, and of the chapter's examples. -/
import Derived.Test.YtdhifcbjjjmfkaaW3
namespace Go.Proofs.Ytdhifcbjjjmfkaa
open Go.RowKit

set_option maxHeartbeats 1000000 in
set_option maxRecDepth 100000 in
theorem refFloor_yes (a b : Int) (w : World) (ha0 : 0 ≤ a) (ha : a ≤ 4611686018427387904) (hb0 : 1 ≤ b) (hb : b ≤ 4611686018427387904) :
    Calls Try.prog 13 #[.int .i64 a, .int .i64 b] w fun e w' => e = .returned (.tuple #[.int .i64 (a / b), .bool true]) ∧ w' = w := by
  have hz : (b == 0) = false := by simp; omega
  go_enter Try.func13, Try.ntmps13
  go_wp2
  go_ret2
  exact ⟨rfl, rfl⟩

set_option maxHeartbeats 1000000 in
set_option maxRecDepth 100000 in
theorem refFloor_no (a b : Int) (w : World) (h : ¬ okq a b) :
    Calls Try.prog 13 #[.int .i64 a, .int .i64 b] w fun e w' => e = .returned (.tuple #[.int .i64 0, .bool false]) ∧ w' = w := by
  unfold okq at h
  by_cases c0 : 0 ≤ a
  · by_cases c1 : a ≤ 4611686018427387904
    · by_cases c2 : 0 ≤ b
      · by_cases c3 : b ≤ 4611686018427387904
        · have hz : b = 0 := by omega
          subst hz
          clear h
          go_enter Try.func13, Try.ntmps13
          go_wp2
          go_ret2
          exact ⟨rfl, rfl⟩
        · clear h
          go_enter Try.func13, Try.ntmps13
          go_wp2
          go_ret2
          exact ⟨rfl, rfl⟩
      · clear h
        go_enter Try.func13, Try.ntmps13
        go_wp2
        go_ret2
        exact ⟨rfl, rfl⟩
    · clear h
      by_cases c2 : 0 ≤ b
      · by_cases c3 : b ≤ 4611686018427387904
        · go_enter Try.func13, Try.ntmps13
          go_wp2
          go_ret2
          exact ⟨rfl, rfl⟩
        · go_enter Try.func13, Try.ntmps13
          go_wp2
          go_ret2
          exact ⟨rfl, rfl⟩
      · go_enter Try.func13, Try.ntmps13
        go_wp2
        go_ret2
        exact ⟨rfl, rfl⟩
  · clear h
    by_cases c2 : 0 ≤ b
    · by_cases c3 : b ≤ 4611686018427387904
      · go_enter Try.func13, Try.ntmps13
        go_wp2
        go_ret2
        exact ⟨rfl, rfl⟩
      · go_enter Try.func13, Try.ntmps13
        go_wp2
        go_ret2
        exact ⟨rfl, rfl⟩
    · go_enter Try.func13, Try.ntmps13
      go_wp2
      go_ret2
      exact ⟨rfl, rfl⟩

theorem cl_mul {a b : Int} (h : a / b * b < a) : cl a b = a / b + 1 := by
  have e := Int.ediv_mul_add_emod a b
  unfold cl
  rw [if_neg (by omega)]
theorem cl_mul0 {a b : Int} (hb : 1 ≤ b) (h : ¬ a / b * b < a) : cl a b = a / b := by
  have e := Int.ediv_mul_add_emod a b
  have e1 := Int.emod_nonneg a (show b ≠ 0 by omega)
  unfold cl
  rw [if_pos (by omega)]

set_option maxHeartbeats 1000000 in
set_option maxRecDepth 100000 in
theorem refCeil_yes (a b : Int) (w : World) (ha0 : 0 ≤ a) (ha : a ≤ 4611686018427387904) (hb0 : 1 ≤ b) (hb : b ≤ 4611686018427387904) :
    Calls Try.prog 15 #[.int .i64 a, .int .i64 b] w fun e w' => e = .returned (.tuple #[.int .i64 (cl a b), .bool true]) ∧ w' = w := by
  have q0 : 0 ≤ a / b := Int.ediv_nonneg ha0 (by omega)
  have q1 : a / b ≤ a := Int.ediv_le_self _ ha0
  have m0 : 0 ≤ a / b * b := Int.mul_nonneg q0 (by omega)
  have m1 : a / b * b ≤ a := Int.ediv_mul_le a (by omega)
  by_cases hl : a / b * b < a
  · have HC : Hid (cl a b = a / b + 1) := cl_mul hl
    go_enter Try.func15, Try.ntmps15
    go_wp2_with (go_at_call 13; refine (refFloor_yes _ _ _ ha0 ha hb0 hb).mono ?_; rintro e w' ⟨rfl, rfl⟩)
    go_ret2
    exact ⟨ret_ib HC.out.symm rfl, rfl⟩
  · have HC : Hid (cl a b = a / b) := cl_mul0 hb0 hl
    go_enter Try.func15, Try.ntmps15
    go_wp2_with (go_at_call 13; refine (refFloor_yes _ _ _ ha0 ha hb0 hb).mono ?_; rintro e w' ⟨rfl, rfl⟩)
    go_ret2
    exact ⟨ret_ib HC.out.symm rfl, rfl⟩

set_option maxHeartbeats 1000000 in
set_option maxRecDepth 100000 in
theorem refCeil_no (a b : Int) (w : World) (h : ¬ okq a b) :
    Calls Try.prog 15 #[.int .i64 a, .int .i64 b] w fun e w' => e = .returned (.tuple #[.int .i64 0, .bool false]) ∧ w' = w := by
  have H : Hid (¬ okq a b) := h
  clear h
  go_enter Try.func15, Try.ntmps15
  go_wp2_with (go_at_call 13; refine (refFloor_no _ _ _ H.out).mono ?_; rintro e w' ⟨rfl, rfl⟩)
  go_ret2
  exact ⟨rfl, rfl⟩
end Go.Proofs.Ytdhifcbjjjmfkaa
