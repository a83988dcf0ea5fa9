/- The walks of the statements FracWhole and FracScale: each returns true, and writes nothing that was there. -/
import Derived.Test.YtdhifcbjjjmfkaaL1
namespace Go.Proofs.Ytdhifcbjjjmfkaa
open Go.RowKit

theorem prod_bd {a b m k : Int} (ha0 : 0 ≤ a) (ha : a ≤ m) (hb0 : 0 ≤ b) (hb : b ≤ m) (hm : m * m ≤ k) : 0 ≤ a * b ∧ a * b ≤ k :=
  ⟨Int.mul_nonneg ha0 hb0, by have := Int.mul_le_mul ha hb hb0 (by omega); omega⟩

theorem cl_whole (a b : Int) (hb : 1 ≤ b) : cl (a * b) b = a := by
  unfold cl
  rw [if_pos (Int.mul_emod_left a b), Int.mul_ediv_cancel a (by omega)]

theorem root_whole {a : Int} (h : 0 ≤ a) : IsRoot (a * a) a := ⟨h, by omega, by rw [Int.add_mul, Int.mul_add]; omega⟩

set_option maxHeartbeats 1000000 in
set_option maxRecDepth 100000 in
theorem law_whole (a b : Int) (w : World) :
    Calls Try.prog 10 #[.int .i64 a, .int .i64 b] w fun e w' => e = .returned (.bool true) ∧ Below w.heap.size w w' := by
  by_cases h : 0 ≤ a ∧ 1 ≤ b ∧ a ≤ 2147483648 ∧ b ≤ 2147483648
  · obtain ⟨ha0, hb0, ha, hb⟩ := h
    obtain ⟨p0, p1⟩ := prod_bd (k := 4611686018427387904) ha0 ha (show 0 ≤ b by omega) hb (by omega)
    obtain ⟨q0, q1⟩ := prod_bd (k := 4611686018427387904) ha0 ha ha0 ha (by omega)
    have hb' : b ≤ 4611686018427387904 := by omega
    have HF : Hid (a * b / b = a) := Int.mul_ediv_cancel a (by omega)
    have HC : Hid (cl (a * b) b = a) := cl_whole a b hb0
    go_enter Try.func10, Try.ntmps10
    go_wp2_with fail
    refine (awake_any _).mono ?_
    rintro e w1 ⟨rfl, hb1⟩
    go_wp2_with fail
    refine (floor_yes (a * b) b _ p0 p1 hb0 hb').mono ?_
    rintro e w2 ⟨rfl, hb2⟩
    rw [HF.out]
    go_wp2_with fail
    refine (ceil_yes (a * b) b _ p0 p1 hb0 hb').mono ?_
    rintro e w3 ⟨rfl, hb3⟩
    rw [HC.out]
    go_wp2_with fail
    refine (root_yes (a * a) _ q0 q1).mono ?_
    rintro e w4 ⟨⟨r, rfl, hr⟩, hb4⟩
    have er : r = a := hr.unique (root_whole ha0)
    subst er
    have s1 := hb1.size
    have s2 := hb2.size
    have s3 := hb3.size
    clear hr
    go_wp2
    go_ret
    exact ⟨rfl, hb1.trans ((hb2.mono (by omega)).trans ((hb3.mono (by omega)).trans (hb4.mono (by omega))))⟩
  · have C : Hid (¬ (0 ≤ a ∧ 1 ≤ b ∧ a ≤ 2147483648 ∧ b ≤ 2147483648)) := h
    clear h
    by_cases c0 : a < 0
    · go_enter Try.func10, Try.ntmps10
      go_wp2_with fail
      refine (awake_any _).mono ?_
      rintro e w1 ⟨rfl, hb1⟩
      go_wp2
      go_ret
      exact ⟨rfl, hb1⟩
    · by_cases c1 : b < 1
      · go_enter Try.func10, Try.ntmps10
        go_wp2_with fail
        refine (awake_any _).mono ?_
        rintro e w1 ⟨rfl, hb1⟩
        go_wp2
        go_ret
        exact ⟨rfl, hb1⟩
      · by_cases c2 : 2147483648 < a
        · go_enter Try.func10, Try.ntmps10
          go_wp2_with fail
          refine (awake_any _).mono ?_
          rintro e w1 ⟨rfl, hb1⟩
          go_wp2
          go_ret
          exact ⟨rfl, hb1⟩
        · have c3 : 2147483648 < b := by have := C.out; omega
          go_enter Try.func10, Try.ntmps10
          go_wp2_with fail
          refine (awake_any _).mono ?_
          rintro e w1 ⟨rfl, hb1⟩
          go_wp2
          go_ret
          exact ⟨rfl, hb1⟩

theorem sgn_scale {x y k : Int} (hk : 1 ≤ k) : sgn (x * k) (y * k) = sgn x y := by
  rcases Int.lt_trichotomy x y with g | g | g
  · rw [sgn_lt g, sgn_lt (Int.mul_lt_mul_of_pos_right g (by omega))]
  · rw [sgn_eq g, sgn_eq (by rw [g])]
  · rw [sgn_gt1 g, sgn_gt1 (Int.mul_lt_mul_of_pos_right g (by omega))]

theorem cmp_scale (a b c d k : Int) (hk : 1 ≤ k) : sgn (a * k * d) (c * (b * k)) = sgn (a * d) (c * b) := by
  rw [Int.mul_right_comm, ← Int.mul_assoc c b k]
  exact sgn_scale hk

theorem cl_scale (a b k : Int) (hk : 1 ≤ k) : cl (a * k) (b * k) = cl a b := by
  have e1 : a * k / (b * k) = a / b := Int.mul_ediv_mul_of_pos_left a b (by omega)
  have e2 : a * k % (b * k) = a % b * k := by rw [Int.mul_comm a k, Int.mul_comm b k, Int.mul_emod_mul_of_pos _ _ (by omega), Int.mul_comm]
  unfold cl
  rw [e1, e2]
  by_cases z : a % b = 0
  · rw [if_pos z, if_pos (by rw [z, Int.zero_mul])]
  · rw [if_neg z, if_neg (fun h => by rcases Int.mul_eq_zero.1 h with g | g <;> omega)]

set_option maxHeartbeats 4000000 in
set_option maxRecDepth 100000 in
theorem law_scale (a b c d k : Int) (w : World) :
    Calls Try.prog 8 #[.int .i64 a, .int .i64 b, .int .i64 c, .int .i64 d, .int .i64 k] w fun e w' => e = .returned (.bool true) ∧ Below w.heap.size w w' := by
  by_cases h : 0 ≤ a ∧ 1 ≤ b ∧ 0 ≤ c ∧ 1 ≤ d ∧ 1 ≤ k ∧ a ≤ 1073741824 ∧ b ≤ 1073741824 ∧ c ≤ 1073741824 ∧ d ≤ 1073741824 ∧ k ≤ 1073741824
  · obtain ⟨ha0, hb0, hc0, hd0, hk0, ha, hb, hc, hd, hk⟩ := h
    obtain ⟨p0, p1⟩ := prod_bd (k := 4611686018427387904) ha0 ha (show 0 ≤ k by omega) hk (by omega)
    obtain ⟨_, q1⟩ := prod_bd (k := 4611686018427387904) (show 0 ≤ b by omega) hb (show 0 ≤ k by omega) hk (by omega)
    have q0 : 1 ≤ b * k := by have := Int.mul_pos (show 0 < b by omega) (show 0 < k by omega); omega
    have ha' : a ≤ 4611686018427387904 := by omega
    have hb' : b ≤ 4611686018427387904 := by omega
    have hc' : c ≤ 4611686018427387904 := by omega
    have hd' : d ≤ 4611686018427387904 := by omega
    have HS : Hid _ := cmp_scale a b c d k hk0
    have HF : Hid (a * k / (b * k) = a / b) := Int.mul_ediv_mul_of_pos_left a b (by omega)
    have HC : Hid _ := cl_scale a b k hk0
    go_enter Try.func8, Try.ntmps8
    go_wp2_with fail
    refine (awake_any _).mono ?_
    rintro e w1 ⟨rfl, hb1⟩
    go_wp2_with fail
    refine (cmp_yes a b c d _ ha0 ha' hb0 hb' hc0 hc' hd0 hd').mono ?_
    rintro e w2 ⟨rfl, hb2⟩
    go_wp2_with fail
    refine (cmp_yes (a * k) (b * k) c d _ p0 p1 q0 q1 hc0 hc' hd0 hd').mono ?_
    rintro e w3 ⟨rfl, hb3⟩
    rw [HS.out]
    go_wp2_with fail
    refine (floor_yes a b _ ha0 ha' hb0 hb').mono ?_
    rintro e w4 ⟨rfl, hb4⟩
    go_wp2_with fail
    refine (floor_yes (a * k) (b * k) _ p0 p1 q0 q1).mono ?_
    rintro e w5 ⟨rfl, hb5⟩
    rw [HF.out]
    go_wp2_with fail
    refine (ceil_yes a b _ ha0 ha' hb0 hb').mono ?_
    rintro e w6 ⟨rfl, hb6⟩
    go_wp2_with fail
    refine (ceil_yes (a * k) (b * k) _ p0 p1 q0 q1).mono ?_
    rintro e w7 ⟨rfl, hb7⟩
    rw [HC.out]
    have s1 := hb1.size
    have s2 := hb2.size
    have s3 := hb3.size
    have s4 := hb4.size
    have s5 := hb5.size
    have s6 := hb6.size
    go_wp2
    go_ret
    exact ⟨rfl, hb1.trans ((hb2.mono (by omega)).trans ((hb3.mono (by omega)).trans ((hb4.mono (by omega)).trans ((hb5.mono (by omega)).trans ((hb6.mono (by omega)).trans (hb7.mono (by omega)))))))⟩
  · have C : Hid (¬ (0 ≤ a ∧ 1 ≤ b ∧ 0 ≤ c ∧ 1 ≤ d ∧ 1 ≤ k ∧ a ≤ 1073741824 ∧ b ≤ 1073741824 ∧ c ≤ 1073741824 ∧ d ≤ 1073741824 ∧ k ≤ 1073741824)) := h
    clear h
    go_enter Try.func8, Try.ntmps8
    go_wp2_with fail
    refine (awake_any _).mono ?_
    rintro e w1 ⟨rfl, hb1⟩
    go_wp2_with fail
    all_goals first
      | (go_ret; exact ⟨rfl, hb1⟩)
      | (exfalso; have := C.out; omega)
end Go.Proofs.Ytdhifcbjjjmfkaa
