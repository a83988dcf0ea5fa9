/- The walk of the statement FracOrder: it returns true, and writes nothing that was there. -/
import Derived.Test.YtdhifcbjjjmfkaaL1
namespace Go.Proofs.Ytdhifcbjjjmfkaa
open Go.RowKit

theorem sgn_bd (x y : Int) : -1 ≤ sgn x y ∧ sgn x y ≤ 1 := by
  rcases Int.lt_trichotomy x y with g | g | g
  · rw [sgn_lt g]; omega
  · rw [sgn_eq g]; omega
  · rw [sgn_gt1 g]; omega

theorem sgn_anti (x y : Int) : sgn y x = -sgn x y := by
  rcases Int.lt_trichotomy x y with g | g | g
  · rw [sgn_lt g, sgn_gt1 g]; omega
  · rw [sgn_eq g, sgn_eq g.symm]; omega
  · rw [sgn_gt1 g, sgn_lt g]

theorem sgn_neg {x y : Int} (h : sgn x y < 0) : x < y := by
  rcases Int.lt_trichotomy x y with g | g | g
  · exact g
  · rw [sgn_eq g] at h; omega
  · rw [sgn_gt1 g] at h; omega

theorem cmB_comm (a b c d : Int) : cmB c d a b = cmB a b c d := by unfold cmB; exact Bool.and_comm _ _

theorem cmV_bd (a b c d : Int) : -1 ≤ cmV a b c d ∧ cmV a b c d ≤ 1 := by
  by_cases h : okq a b ∧ okq c d
  · rw [cmV_yes h]; exact sgn_bd _ _
  · rw [cmV_no h]; omega

theorem cmV_anti (a b c d : Int) : cmV c d a b = -cmV a b c d := by
  by_cases h : okq a b ∧ okq c d
  · rw [cmV_yes h, cmV_yes ⟨h.2, h.1⟩]; exact sgn_anti _ _
  · rw [cmV_no h, cmV_no (fun k => h ⟨k.2, k.1⟩)]; rfl

theorem cmB_ok {a b c d : Int} (h : cmB a b c d = true) : okq a b ∧ okq c d := by
  unfold cmB at h
  rw [Bool.and_eq_true] at h
  exact ⟨okq_of h.1, okq_of h.2⟩

/-- What is less than what is less is less. -/
theorem cmV_trans {a b c d e f : Int} (h1 : cmB a b c d = true) (h2 : cmB c d e f = true) (h3 : cmV a b c d < 0) (h4 : cmV c d e f < 0) : cmV a b e f < 0 := by
  have o1 := cmB_ok h1
  have o2 := cmB_ok h2
  rw [cmV_yes o1] at h3
  rw [cmV_yes o2] at h4
  rw [cmV_yes ⟨o1.1, o2.2⟩]
  have g1 := sgn_neg h3
  have g2 := sgn_neg h4
  obtain ⟨⟨_, _, b0, _⟩, ⟨_, _, d0, _⟩⟩ := o1
  obtain ⟨_, ⟨_, _, f0, _⟩⟩ := o2
  have k1 : a * d * f < c * b * f := Int.mul_lt_mul_of_pos_right g1 (by omega)
  have k2 : c * f * b < e * d * b := Int.mul_lt_mul_of_pos_right g2 (by omega)
  have k3 : a * f * d < e * b * d := by
    rw [Int.mul_right_comm a f d, Int.mul_right_comm e b d]
    rw [Int.mul_right_comm c f b] at k2
    omega
  have k4 : a * f < e * b := Int.lt_of_mul_lt_mul_right k3 (by omega)
  rw [sgn_lt k4]; omega

/-- A whole number through 1 stands as it is. -/
theorem cmV_whole {a c : Int} (h : cmB a 1 c 1 = true) : cmV a 1 c 1 = sgn a c := by
  rw [cmV_yes (cmB_ok h), Int.mul_one, Int.mul_one]

set_option maxHeartbeats 4000000 in
set_option maxRecDepth 100000 in
theorem law_order (a b c d e f : Int) (w : World) :
    Calls Try.prog 5 #[.int .i64 a, .int .i64 b, .int .i64 c, .int .i64 d, .int .i64 e, .int .i64 f] w fun e w' => e = .returned (.bool true) ∧ Below w.heap.size w w' := by
  obtain ⟨x0, x1⟩ := cmV_bd a b c d
  have HB : Hid _ := cmB_comm a b c d
  have HV : Hid _ := cmV_anti a b c d
  have HT : Hid _ := @cmV_trans a b c d e f
  have HW : Hid _ := @cmV_whole a c
  go_enter Try.func5, Try.ntmps5
  go_wp2_with fail
  refine (awake_any _).mono ?_
  rintro e1 w1 ⟨rfl, hb1⟩
  go_wp2_with fail
  refine (cmp_any a b c d _).mono ?_
  rintro e2 w2 ⟨rfl, hb2⟩
  go_wp2_with fail
  refine (cmp_any c d a b _).mono ?_
  rintro e3 w3 ⟨rfl, hb3⟩
  rw [HB.out, HV.out]
  go_wp2_with fail
  refine (cmp_any c d e f _).mono ?_
  rintro e4 w4 ⟨rfl, hb4⟩
  go_wp2_with fail
  refine (cmp_any a b e f _).mono ?_
  rintro e5 w5 ⟨rfl, hb5⟩
  have s1 := hb1.size
  have s2 := hb2.size
  have s3 := hb3.size
  have s4 := hb4.size
  have s5 := hb5.size
  go_wp2_with fail
  · exfalso
    have := HT.out ‹_› ‹_› ‹_› ‹_›
    omega
  all_goals
    refine (cmp_any a 1 c 1 _).mono ?_
    rintro e6 w6 ⟨rfl, hb6⟩
    have fin : Below w.heap.size w w6 := hb1.trans ((hb2.mono (by omega)).trans ((hb3.mono (by omega)).trans ((hb4.mono (by omega)).trans ((hb5.mono (by omega)).trans (hb6.mono (by omega))))))
    clear hb1 hb2 hb3 hb4 hb5 hb6 s1 s2 s3 s4 s5 x0 x1
    cases hB : cmB a 1 c 1
    · go_wp2
      go_ret
      exact ⟨rfl, fin⟩
    · rw [HW.out hB]
      rcases Int.lt_trichotomy a c with g | g | g
      · rw [sgn_lt g]
        have g1 : (a == c) = false := by simp; omega
        go_wp2
        go_ret
        exact ⟨rfl, fin⟩
      · subst g
        rw [sgn_eq rfl]
        go_wp2
        go_ret
        exact ⟨rfl, fin⟩
      · rw [sgn_gt1 g]
        have g1 : (a == c) = false := by simp; omega
        go_wp2
        go_ret
        exact ⟨ret_b (by rw [decide_eq_false (by omega)]; rfl), fin⟩

end Go.Proofs.Ytdhifcbjjjmfkaa
