/- Walks of the document's own Cmp (whole parts first, then what is left, the other way round) and Beats. -/
import Derived.Test.YtdhifcbjjjmfkaaW6
namespace Go.Proofs.Ytdhifcbjjjmfkaa
open Go.RowKit

theorem sgn_lt {x y : Int} (h : x < y) : sgn x y = -1 := by unfold sgn; rw [if_neg (by omega), if_pos h]
theorem sgn_eq {x y : Int} (h : x = y) : sgn x y = 0 := by unfold sgn; rw [if_pos h]
theorem sgn_gt1 {x y : Int} (h : y < x) : sgn x y = 1 := by unfold sgn; rw [if_neg (by omega), if_neg (by omega)]

/-- Where whole parts differ, so do the quotients. -/
theorem whole_lt {a b c d : Int} (hb : 1 ≤ b) (hd : 1 ≤ d) (h : a / b < c / d) : a * d < c * b := by
  have ea := Int.ediv_mul_add_emod a b
  have ma := Int.emod_lt_of_pos a (show 0 < b by omega)
  have ec := Int.ediv_mul_le c (show d ≠ 0 by omega)
  have h1 : a < c / d * b := by
    have : (a / b + 1) * b ≤ c / d * b := Int.mul_le_mul_of_nonneg_right (by omega) (by omega)
    rw [Int.add_mul] at this
    omega
  have h2 : a * d < c / d * b * d := Int.mul_lt_mul_of_pos_right h1 (by omega)
  have h3 : c / d * d * b ≤ c * b := Int.mul_le_mul_of_nonneg_right ec (by omega)
  rw [Int.mul_right_comm] at h3
  omega

/-- Where whole parts are the same, what is left tells. -/
theorem whole_eq (a b c d x : Int) : a * d - c * b = (a - x * b) * d - (c - x * d) * b := by
  rw [Int.sub_mul, Int.sub_mul, Int.mul_right_comm _ d b]
  omega

theorem sgn_sub {x y u v : Int} (h : x - y = u - v) : sgn x y = sgn u v := by
  rcases Int.lt_trichotomy x y with g | g | g
  · rw [sgn_lt g, sgn_lt (by omega)]
  · rw [sgn_eq g, sgn_eq (by omega)]
  · rw [sgn_gt1 g, sgn_gt1 (by omega)]

theorem left_of {a b : Int} : a - a / b * b = a % b := by
  have := Int.ediv_mul_add_emod a b
  omega

set_option maxHeartbeats 4000000 in
set_option maxRecDepth 100000 in
theorem refCmp_yes (a b c d : Int) (w : World) (ha0 : 0 ≤ a) (ha : a ≤ 4611686018427387904) (hb0 : 1 ≤ b) (hb : b ≤ 4611686018427387904) (hc0 : 0 ≤ c) (hc : c ≤ 4611686018427387904) (hd0 : 1 ≤ d) (hd : d ≤ 4611686018427387904) :
    Calls Try.prog 17 #[.int .i64 a, .int .i64 b, .int .i64 c, .int .i64 d] w fun e w' => e = .returned (.tuple #[.int .i64 (sgn (a * d) (c * b)), .bool true]) ∧ w' = w := by
  have HT : Hid (∃ t, t = sgn (a * d) (c * b)) := ⟨_, rfl⟩
  obtain ⟨t, ht⟩ := HT.out
  rw [← ht]
  have HE : Hid (t = sgn (a * d) (c * b)) := ht
  clear ht HT
  go_enter Try.func17, Try.ntmps17
  go_wp2_with fail
  refine (refFloor_yes _ _ _ ha0 ha hb0 hb).mono ?_
  rintro e w' ⟨rfl, rfl⟩
  go_wp2_with fail
  refine (refFloor_yes _ _ _ hc0 hc hd0 hd).mono ?_
  rintro e w' ⟨rfl, rfl⟩
  go_wp2_with fail
  go_loop [0, 1, 2, 3, 10, 12] (fun va vb vc vd vx vy => ∃ a b c d x y : Int, (0 ≤ a ∧ a ≤ 4611686018427387904 ∧ 1 ≤ b ∧ b ≤ 4611686018427387904 ∧ 0 ≤ c ∧ c ≤ 4611686018427387904 ∧ 1 ≤ d ∧ d ≤ 4611686018427387904) ∧ Hid (x = a / b ∧ y = c / d ∧ t = sgn (a * d) (c * b)) ∧ va = .int .i64 a ∧ vb = .int .i64 b ∧ vc = .int .i64 c ∧ vd = .int .i64 d ∧ vx = .int .i64 x ∧ vy = .int .i64 y) (fun _ vb _ vd _ _ => (intOf vb).toNat + (intOf vd).toNat)
  case atStart => exact ⟨a, b, c, d, _, _, ⟨ha0, ha, hb0, hb, hc0, hc, hd0, hd⟩, ⟨rfl, rfl, HE.out⟩, rfl, rfl, rfl, rfl, rfl, rfl⟩
  case round =>
    clear HE ha0 ha hb0 hb hc0 hc hd0 hd
    obtain ⟨a, b, c, d, x, y, ⟨ha0, ha, hb0, hb, hc0, hc, hd0, hd⟩, H, rfl, rfl, rfl, rfl, rfl, rfl⟩ := hrel
    rcases Int.lt_trichotomy x y with hlt | hxy | hgt
    · have HR : Hid (t = -1) := by
        obtain ⟨hx, hy, ht⟩ := H.out
        rw [hx, hy] at hlt
        show _ = _
        rw [ht, sgn_lt (whole_lt hb0 hd0 hlt)]
      have hne : (x != y) = true := by simp; omega
      go_wp2
      go_ret2
      exact ⟨ret_ib HR.out.symm rfl, rfl⟩
    · subst hxy
      have M : Hid (a * d - c * b = (a - x * b) * d - (c - x * d) * b ∧ a - x * b = a % b ∧ c - x * d = c % d) := by
        obtain ⟨hx, hy, _⟩ := H.out
        refine ⟨whole_eq a b c d x, ?_, ?_⟩
        · rw [hx]; exact left_of
        · rw [hy]; exact left_of
      have ma0 := Int.emod_nonneg a (show b ≠ 0 by omega)
      have ma1 := Int.emod_lt_of_pos a (show 0 < b by omega)
      have mc0 := Int.emod_nonneg c (show d ≠ 0 by omega)
      have mc1 := Int.emod_lt_of_pos c (show 0 < d by omega)
      have x0 : 0 ≤ x := by rw [H.out.1]; exact Int.ediv_nonneg ha0 (by omega)
      have xb0 : 0 ≤ x * b := Int.mul_nonneg x0 (by omega)
      have xd0 : 0 ≤ x * d := Int.mul_nonneg x0 (by omega)
      have xb1 : x * b ≤ a := by have := M.out.2.1; omega
      have xd1 : x * d ≤ c := by have := M.out.2.2; omega
      have la : a - x * b < b := by have := M.out.2.1; omega
      have lc : c - x * d < d := by have := M.out.2.2; omega
      clear ma0 ma1 mc0 mc1
      have hne : (x != x) = false := by simp
      have HG : Hid (t = sgn ((a - x * b) * d) ((c - x * d) * b)) := by
        show _ = _
        rw [H.out.2.2, sgn_sub M.out.1]
      clear H M
      have hA : 0 ≤ a - x * b := by omega
      have hC : 0 ≤ c - x * d := by omega
      by_cases zA : a - x * b = 0
      · have bA : (a - x * b == 0) = true := by simpa using zA
        by_cases zC : c - x * d = 0
        · have bC : (c - x * d == 0) = true := by simpa using zC
          have HR : Hid (t = 0) := by
            show _ = _
            rw [HG.out, zA, zC, sgn_eq (by simp)]
          clear zA zC
          go_wp2
          go_ret2
          exact ⟨ret_ib HR.out.symm rfl, rfl⟩
        · have bC : (c - x * d == 0) = false := by simpa using zC
          have HR : Hid (t = -1) := by
            show _ = _
            rw [HG.out, zA, sgn_lt (by rw [Int.zero_mul]; exact Int.mul_pos (by omega) (by omega))]
          clear zA zC
          go_wp2
          go_ret2
          exact ⟨ret_ib HR.out.symm rfl, rfl⟩
      · have bA : (a - x * b == 0) = false := by simpa using zA
        by_cases zC : c - x * d = 0
        · have bC : (c - x * d == 0) = true := by simpa using zC
          have HR : Hid (t = 1) := by
            show _ = _
            rw [HG.out, zC, sgn_gt1 (by rw [Int.zero_mul]; exact Int.mul_pos (by omega) (by omega))]
          clear zA zC
          go_wp2
          go_ret2
          exact ⟨ret_ib HR.out.symm rfl, rfl⟩
        · have bC : (c - x * d == 0) = false := by simpa using zC
          have pA : 1 ≤ a - x * b := by omega
          have pC : 1 ≤ c - x * d := by omega
          clear zA zC
          go_wp2
          go_round
          case rel => exact ⟨d, c - x * d, b, a - x * b, d / (c - x * d), b / (a - x * b), ⟨by omega, by omega, by omega, by omega, by omega, by omega, by omega, by omega⟩, ⟨rfl, rfl, by rw [HG.out, Int.mul_comm d, Int.mul_comm b]⟩, rfl, rfl, rfl, rfl, rfl, rfl⟩
          case measure => simp [intOf]; omega
    · have HR : Hid (t = 1) := by
        obtain ⟨hx, hy, ht⟩ := H.out
        rw [hx, hy] at hgt
        show _ = _
        rw [ht, sgn_gt1 (whole_lt hd0 hb0 hgt)]
      have hne : (x != y) = true := by simp; omega
      have hnl : ¬ x < y := by omega
      go_wp2
      go_ret2
      exact ⟨ret_ib HR.out.symm rfl, rfl⟩

theorem refCmp_no (a b c d : Int) (w : World) (h : ¬ (okq a b ∧ okq c d)) :
    Calls Try.prog 17 #[.int .i64 a, .int .i64 b, .int .i64 c, .int .i64 d] w fun e w' => e = .returned (.tuple #[.int .i64 0, .bool false]) ∧ w' = w := by
  by_cases h1 : okq a b
  · have H2 : Hid (¬ okq c d) := fun h2 => h ⟨h1, h2⟩
    obtain ⟨ha0, ha, hb0, hb⟩ := h1
    clear h
    go_enter Try.func17, Try.ntmps17
    go_wp2_with fail
    refine (refFloor_yes _ _ _ ha0 ha hb0 hb).mono ?_
    rintro e w' ⟨rfl, rfl⟩
    go_wp2_with fail
    refine (refFloor_no _ _ _ H2.out).mono ?_
    rintro e w' ⟨rfl, rfl⟩
    go_wp2
    go_ret2
    exact ⟨rfl, rfl⟩
  · have H1 : Hid (¬ okq a b) := h1
    clear h h1
    by_cases h2 : okq c d
    · obtain ⟨hc0, hc, hd0, hd⟩ := h2
      go_enter Try.func17, Try.ntmps17
      go_wp2_with fail
      refine (refFloor_no _ _ _ H1.out).mono ?_
      rintro e w' ⟨rfl, rfl⟩
      go_wp2_with fail
      refine (refFloor_yes _ _ _ hc0 hc hd0 hd).mono ?_
      rintro e w' ⟨rfl, rfl⟩
      go_wp2
      go_ret2
      exact ⟨rfl, rfl⟩
    · have H2 : Hid (¬ okq c d) := h2
      clear h2
      go_enter Try.func17, Try.ntmps17
      go_wp2_with fail
      refine (refFloor_no _ _ _ H1.out).mono ?_
      rintro e w' ⟨rfl, rfl⟩
      go_wp2_with fail
      refine (refFloor_no _ _ _ H2.out).mono ?_
      rintro e w' ⟨rfl, rfl⟩
      go_wp2
      go_ret2
      exact ⟨rfl, rfl⟩

theorem tri_bd {k s : Int} (h0 : 0 ≤ k) (h : k ≤ 1048576) (s0 : 0 ≤ s) (hs : s ≤ 1048576) : 0 ≤ k * s ∧ k * s ≤ 1099511627776 ∧ 0 ≤ k * s * s ∧ k * s * s ≤ 1152921504606846976 := by
  have p := Int.mul_nonneg h0 s0
  have q := Int.mul_le_mul h hs s0 (by omega)
  have p2 := Int.mul_nonneg p s0
  have q2 : k * s * s ≤ 1099511627776 * 1048576 := Int.mul_le_mul (by omega) hs s0 (by omega)
  omega

theorem bt_in {v s k : Int} (hv0 : 0 ≤ v) (hv : v ≤ 1048576) (hs0 : 0 ≤ s) (hs : s ≤ 1048576) (hk0 : 0 ≤ k) (hk : k ≤ 1048576) (hlt : s < v) : decide (k * s * s < (v - s) * (v - s)) = bt v s k := by
  unfold bt
  rw [Int.mul_assoc]
  exact decide_eq_decide.2 ⟨fun h => ⟨hv0, hv, hs0, hs, hk0, hk, hlt, h⟩, fun h => h.2.2.2.2.2.2.2⟩

set_option maxHeartbeats 4000000 in
set_option maxRecDepth 100000 in
theorem refBeats_any (v s k : Int) (w : World) :
    Calls Try.prog 21 #[.int .i64 v, .int .i64 s, .int .i64 k] w fun e w' => e = .returned (.bool (bt v s k)) ∧ w' = w := by
  by_cases h : 0 ≤ v ∧ v ≤ 1048576 ∧ 0 ≤ s ∧ s ≤ 1048576 ∧ 0 ≤ k ∧ k ≤ 1048576 ∧ s < v
  · obtain ⟨hv0, hv, hs0, hs, hk0, hk, hlt⟩ := h
    have HB : Hid _ := bt_in hv0 hv hs0 hs hk0 hk hlt
    obtain ⟨b1, b2, b3, b4⟩ := tri_bd hk0 hk hs0 hs
    obtain ⟨d1, d2⟩ := sq_bd (x := v - s) (by omega) (by omega)
    go_enter Try.func21, Try.ntmps21
    go_wp2
    go_ret
    exact ⟨ret_b HB.out, rfl⟩
  · rw [bt_no h]
    by_cases c0 : v < 0
    · clear h
      go_enter Try.func21, Try.ntmps21
      go_wp2
      go_ret
      exact ⟨rfl, rfl⟩
    · by_cases c1 : s < 0
      · clear h
        go_enter Try.func21, Try.ntmps21
        go_wp2
        go_ret
        exact ⟨rfl, rfl⟩
      · by_cases c2 : k < 0
        · clear h
          go_enter Try.func21, Try.ntmps21
          go_wp2
          go_ret
          exact ⟨rfl, rfl⟩
        · by_cases c3 : 1048576 < v
          · clear h
            go_enter Try.func21, Try.ntmps21
            go_wp2
            go_ret
            exact ⟨rfl, rfl⟩
          · by_cases c4 : 1048576 < s
            · clear h
              go_enter Try.func21, Try.ntmps21
              go_wp2
              go_ret
              exact ⟨rfl, rfl⟩
            · by_cases c5 : 1048576 < k
              · clear h
                go_enter Try.func21, Try.ntmps21
                go_wp2
                go_ret
                exact ⟨rfl, rfl⟩
              · have c6 : ¬ s < v := by omega
                clear h
                go_enter Try.func21, Try.ntmps21
                go_wp2
                go_ret
                exact ⟨rfl, rfl⟩
end Go.Proofs.Ytdhifcbjjjmfkaa
