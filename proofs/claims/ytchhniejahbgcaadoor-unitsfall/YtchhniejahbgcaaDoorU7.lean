/- What rounded quotients are to one another; the walk of the statement UnitsFall: it returns true, and writes nothing that was there. -/
import Derived.Test.YtchhniejahbgcaaDoorU6
namespace Go.Proofs.YtchhniejahbgcaaDoor
open Go.RowKit

theorem cl_ge {a b : Int} (hb : 1 ≤ b) : a ≤ cl a b * b := by
  have e := Int.ediv_mul_add_emod a b
  have e0 := Int.emod_nonneg a (show b ≠ 0 by omega)
  have e1 := Int.emod_lt_of_pos a (show 0 < b by omega)
  have e2 : (a / b + 1) * b = a / b * b + b := by rw [Int.add_mul, Int.one_mul]
  unfold cl
  split <;> omega
theorem cl_lt {a b : Int} (hb : 1 ≤ b) : (cl a b - 1) * b < a := by
  have e := Int.ediv_mul_add_emod a b
  have e0 := Int.emod_nonneg a (show b ≠ 0 by omega)
  have e2 : (a / b - 1) * b = a / b * b - b := by rw [Int.sub_mul, Int.one_mul]
  have e3 : (a / b + 1 - 1) * b = a / b * b := by rw [Int.add_sub_cancel]
  unfold cl
  split <;> omega
theorem cl_le_of {a b n : Int} (hb : 1 ≤ b) (h : a ≤ n * b) : cl a b ≤ n := by
  have h1 := cl_lt (a := a) hb
  have h2 : (cl a b - 1) * b < n * b := by omega
  have := Int.lt_of_mul_lt_mul_right h2 (by omega)
  omega
theorem le_cl_of {a b n : Int} (hb : 1 ≤ b) (h : (n - 1) * b < a) : n ≤ cl a b := by
  have h1 := cl_ge (a := a) hb
  have h2 : (n - 1) * b < cl a b * b := by omega
  have := Int.lt_of_mul_lt_mul_right h2 (by omega)
  omega
theorem cl_pos {a b : Int} (hb : 1 ≤ b) (ha : 1 ≤ a) : 1 ≤ cl a b := le_cl_of hb (by rw [Int.sub_self, Int.zero_mul]; omega)
theorem cl_anti {a b d : Int} (ha : 1 ≤ a) (hb : 1 ≤ b) (h : b ≤ d) : cl a d ≤ cl a b := by
  refine cl_le_of (by omega) (Int.le_trans (cl_ge hb) ?_)
  exact Int.mul_le_mul_of_nonneg_left h (by have := cl_pos hb ha; omega)
theorem cl_mono6 {a d b : Int} (hb : 1 ≤ b) (h : a ≤ d) : cl a b ≤ cl d b := cl_le_of hb (Int.le_trans h (cl_ge hb))

theorem atV_yes {s : Sp} {p : Int} (h : maySp s = true) (h0 : s.t ≤ p) (h1 : p ≤ s.x) : atV s p = cl (s.c * s.m * 1048576) (s.k * p) := by
  unfold atV atB wiB; rw [h, decide_eq_true ⟨h0, h1⟩]; rfl

theorem at_nums6 {c m k p : Int} (c0 : 1 ≤ c) (c1 : c ≤ 6) (m0 : 1 ≤ m) (m1 : m ≤ 6) (k0 : 1 ≤ k) (k1 : k ≤ 6) (p0 : 1 ≤ p) (p1 : p ≤ 48) :
    (1 ≤ c * m ∧ c * m ≤ 36) ∧ (1 ≤ k * p ∧ k * p ≤ 288) ∧ True :=
  ⟨by rcases six c0 c1 with rfl | rfl | rfl | rfl | rfl | rfl <;> omega, by rcases six k0 k1 with rfl | rfl | rfl | rfl | rfl | rfl <;> omega, trivial⟩
/-- What units of a task are. -/
theorem at_facts {s : Sp} {p : Int} (h : maySp s = true) (h0 : s.t ≤ p) (h1 : p ≤ s.x) :
    1 ≤ atV s p ∧ atV s p ≤ 1048576 ∧ s.c * s.m * 1048576 ≤ atV s p * s.k * p ∧ (atV s p - 1) * s.k * p < s.c * s.m * 1048576 := by
  obtain ⟨c0, c1, f2, f3, f4, ⟨m0, m1, k1⟩, e0, e1, f5⟩ := may_facts h
  obtain ⟨⟨n0, n1⟩, ⟨n2, n3⟩, _⟩ := at_nums6 c0 c1 m0 (show s.m ≤ 6 by omega) (show 1 ≤ s.k by omega) k1 (show 1 ≤ p by omega) (show p ≤ 48 by omega)
  rw [atV_yes h h0 h1, Int.mul_assoc (cl (s.c * s.m * 1048576) (s.k * p)) s.k p, Int.mul_assoc (cl (s.c * s.m * 1048576) (s.k * p) - 1) s.k p]
  refine ⟨cl_pos n2 (by omega), cl_le_of n2 ?_, cl_ge n2, cl_lt n2⟩
  have : s.c * s.m ≤ p * s.k := Int.mul_le_mul (by omega) m1 (by omega) (by omega)
  rw [Int.mul_comm p] at this
  omega
theorem at_fall {s : Sp} {p q : Int} (h : maySp s = true) (h0 : s.t ≤ p) (hq : p ≤ q) (h1 : q ≤ s.x) : atV s q ≤ atV s p := by
  obtain ⟨c0, c1, f2, f3, f4, ⟨m0, m1, k1⟩, e0, e1, f5⟩ := may_facts h
  obtain ⟨⟨n0, n1⟩, ⟨n2, n3⟩, _⟩ := at_nums6 c0 c1 m0 (show s.m ≤ 6 by omega) (show 1 ≤ s.k by omega) k1 (show 1 ≤ p by omega) (show p ≤ 48 by omega)
  rw [atV_yes h h0 (by omega), atV_yes h (by omega) h1]
  exact cl_anti (by omega) n2 (Int.mul_le_mul_of_nonneg_left hq (by omega))
theorem at_least {s : Sp} {q : Int} (h : maySp s = true) (h0 : s.t ≤ q) (h1 : q ≤ s.x) : leastV s ≤ atV s q := by
  obtain ⟨c0, c1, f2, f3, f4, ⟨m0, m1, k1⟩, e0, e1, f5⟩ := may_facts h
  unfold leastV
  split
  · next he =>
    have hq : q = s.t := by omega
    rw [hq]; exact Int.le_refl _
  · exact at_fall h h0 h1 (Int.le_refl _)

set_option maxHeartbeats 1000000 in
set_option maxRecDepth 100000 in
theorem fall_no (c t x m k e p q : Int) (w : World) (hL : Lim w) (h : ¬ (maySp ⟨c, t, x, m, k, e⟩ = true ∧ t ≤ p ∧ p ≤ q ∧ q ≤ x)) :
    Calls Tryd.prog 4 #[.agg #[.int .i64 c, .int .i64 t, .int .i64 x, .int .i64 m, .int .i64 k, .int .i64 e], .int .i64 p, .int .i64 q] w fun r w' => r = .returned (.bool true) ∧ Below w.heap.size w w' := by
  have hS : Six (w.alloc (.cells #[.int .i64 c, .int .i64 t, .int .i64 x, .int .i64 m, .int .i64 k, .int .i64 e] 23)) w.heap.size (Sp.at ⟨c, t, x, m, k, e⟩) := Six.new w ⟨c, t, x, m, k, e⟩
  have HL : Hid (Lim (w.alloc (.cells #[.int .i64 c, .int .i64 t, .int .i64 x, .int .i64 m, .int .i64 k, .int .i64 e] 23))) := hL.later ((Below.refl _ _).alloc (Nat.le_refl _) _)
  clear hL
  go_enter Tryd.func4, Tryd.ntmps4
  go_wp2_with fail
  refine (awake6_any _ HL.out).mono ?_
  rintro r w1 ⟨rfl, hb1⟩
  have hS1 := hS.later hb1
  replace hb1 : Below w.heap.size w w1 := ((Below.refl _ _).alloc (by simp) _).trans (hb1.mono (by simp))
  obtain ⟨a0, a1, a2, a3, a4, a5, b0, b1, b2, b3, b4, b5⟩ := hS1.sp
  clear hS b0 b1 b2 b3 b4 b5
  have H : Hid (¬ (maySp ⟨c, t, x, m, k, e⟩ = true ∧ t ≤ p ∧ p ≤ q ∧ q ≤ x)) := h
  clear h
  go_wp2_with fail
  refine (spmay_any c t x m k e _).mono ?_
  rintro r w2 ⟨rfl, hb2⟩
  have hS2 := hS1.later hb2
  replace hb2 := hb1.trans (hb2.mono hb1.size)
  obtain ⟨a0, a1, a2, a3, a4, a5, b0, b1, b2, b3, b4, b5⟩ := hS2.sp
  clear b0 b1 b2 b3 b4 b5 hS1 hS2 hb1
  cases h1 : maySp ⟨c, t, x, m, k, e⟩
  · go_wp2
    go_ret
    exact ⟨rfl, hb2⟩
  · by_cases g0 : p < t
    · go_wp2
      go_ret
      exact ⟨rfl, hb2⟩
    · by_cases g1 : q < p
      · go_wp2
        go_ret
        exact ⟨rfl, hb2⟩
      · have g2 : q > x := by
          have h3 : ¬ (t ≤ p ∧ p ≤ q ∧ q ≤ x) := fun h => H.out ⟨h1, h⟩
          omega
        go_wp2
        go_ret
        exact ⟨rfl, hb2⟩

set_option maxHeartbeats 1000000 in
set_option maxRecDepth 100000 in
theorem fall_in (c t x m k e p q : Int) (w : World) (hL : Lim w) (h : maySp ⟨c, t, x, m, k, e⟩ = true) (h0 : t ≤ p) (h1 : p ≤ q) (h2 : q ≤ x) :
    Calls Tryd.prog 4 #[.agg #[.int .i64 c, .int .i64 t, .int .i64 x, .int .i64 m, .int .i64 k, .int .i64 e], .int .i64 p, .int .i64 q] w fun r w' => r = .returned (.bool true) ∧ Below w.heap.size w w' := by
  have hS : Six (w.alloc (.cells #[.int .i64 c, .int .i64 t, .int .i64 x, .int .i64 m, .int .i64 k, .int .i64 e] 23)) w.heap.size (Sp.at ⟨c, t, x, m, k, e⟩) := Six.new w ⟨c, t, x, m, k, e⟩
  have HL : Hid (Lim (w.alloc (.cells #[.int .i64 c, .int .i64 t, .int .i64 x, .int .i64 m, .int .i64 k, .int .i64 e] 23))) := hL.later ((Below.refl _ _).alloc (Nat.le_refl _) _)
  clear hL
  obtain ⟨u0, u1, u2, u3⟩ := at_facts (p := p) h h0 (show p ≤ x by omega)
  obtain ⟨d0, d1, d2, d3⟩ := at_facts (p := q) h (show t ≤ q by omega) h2
  have u4 := at_fall (p := p) (q := q) h h0 h1 h2
  have u5 := at_fall (p := t) (q := p) h (Int.le_refl _) h0 (show p ≤ x by omega)
  have u6 := at_least (q := q) h (show t ≤ q by omega) h2
  obtain ⟨c0, c1, f2, f3, f4, ⟨m0, m1, k1⟩, e0, e1, f5⟩ := may_facts h
  simp only at u2 u3 c0 c1 f2 f3 f4 m0 m1 k1
  obtain ⟨⟨n0, n1⟩, ⟨n2, n3⟩, _⟩ := at_nums6 c0 c1 m0 (show m ≤ 6 by omega) (show 1 ≤ k by omega) k1 (show 1 ≤ p by omega) (show p ≤ 48 by omega)
  clear d2 d3 f5 e0 e1
  obtain ⟨a, ha⟩ : ∃ a, atV ⟨c, t, x, m, k, e⟩ p = a := ⟨_, rfl⟩
  obtain ⟨b, hb⟩ : ∃ b, atV ⟨c, t, x, m, k, e⟩ q = b := ⟨_, rfl⟩
  obtain ⟨y, hy⟩ : ∃ y, atV ⟨c, t, x, m, k, e⟩ t = y := ⟨_, rfl⟩
  obtain ⟨z, hz⟩ : ∃ z, leastV ⟨c, t, x, m, k, e⟩ = z := ⟨_, rfl⟩
  have HV : Hid (atV ⟨c, t, x, m, k, e⟩ p = a ∧ atV ⟨c, t, x, m, k, e⟩ q = b ∧ atV ⟨c, t, x, m, k, e⟩ t = y ∧ leastV ⟨c, t, x, m, k, e⟩ = z) := ⟨ha, hb, hy, hz⟩
  rw [ha] at u0 u1 u2 u3 u4 u5
  rw [hb] at d0 d1 u4 u6
  rw [hy] at u5
  rw [hz] at u6
  clear ha hb hy hz
  have H : Hid (maySp ⟨c, t, x, m, k, e⟩ = true) := h
  clear h
  have x0 : 0 ≤ a * k ∧ a * k ≤ 6291456 := by rcases six (show 1 ≤ k by omega) k1 with rfl | rfl | rfl | rfl | rfl | rfl <;> omega
  have x1 : 0 ≤ (a - 1) * k ∧ (a - 1) * k ≤ 6291456 := by rcases six (show 1 ≤ k by omega) k1 with rfl | rfl | rfl | rfl | rfl | rfl <;> omega
  have x2 : 0 ≤ a * k * p ∧ a * k * p ≤ 6291456 * 48 := ⟨Int.mul_nonneg x0.1 (by omega), Int.mul_le_mul x0.2 (by omega) (by omega) (by omega)⟩
  have x3 : 0 ≤ (a - 1) * k * p ∧ (a - 1) * k * p ≤ 6291456 * 48 := ⟨Int.mul_nonneg x1.1 (by omega), Int.mul_le_mul x1.2 (by omega) (by omega) (by omega)⟩
  have v1 : IntKind.i64.wrap (c * m) = c * m := by rw [IntKind.wrap_i64]; omega
  have v2 : IntKind.i64.wrap (c * m * 1048576) = c * m * 1048576 := by rw [IntKind.wrap_i64]; omega
  have v3 : IntKind.i64.wrap (a * k) = a * k := by rw [IntKind.wrap_i64]; omega
  have v4 : IntKind.i64.wrap (a * k * p) = a * k * p := by rw [IntKind.wrap_i64]; omega
  have v5 : IntKind.i64.wrap ((a - 1) * k) = (a - 1) * k := by rw [IntKind.wrap_i64]; omega
  have v6 : IntKind.i64.wrap ((a - 1) * k * p) = (a - 1) * k * p := by rw [IntKind.wrap_i64]; omega
  go_enter Tryd.func4, Tryd.ntmps4
  go_wp2_with fail
  refine (awake6_any _ HL.out).mono ?_
  rintro r w1 ⟨rfl, hb1⟩
  have hS1 := hS.later hb1
  replace hb1 : Below w.heap.size w w1 := ((Below.refl _ _).alloc (by simp) _).trans (hb1.mono (by simp))
  obtain ⟨a0, a1, a2, a3, a4, a5, b0, b1, b2, b3, b4, b5⟩ := hS1.sp
  clear hS b0 b1 b2 b3 b4 b5
  go_wp2_with fail
  refine (spmay_any c t x m k e _).mono ?_
  rintro r w2 ⟨rfl, hb2⟩
  have hS2 := hS1.later hb2
  replace hb2 := hb1.trans (hb2.mono hb1.size)
  obtain ⟨a0, a1, a2, a3, a4, a5, b0, b1, b2, b3, b4, b5⟩ := hS2.sp
  clear b0 b1 b2 b3 b4 b5 hS1 hb1
  rw [H.out]
  go_wp2_with fail
  refine (at_any c t x m k e p _).mono ?_
  rintro r w3 ⟨rfl, hb3⟩
  rw [HV.out.1]
  have hS3 := hS2.later hb3
  replace hb3 := hb2.trans (hb3.mono hb2.size)
  obtain ⟨a0, a1, a2, a3, a4, a5, b0, b1, b2, b3, b4, b5⟩ := hS3.sp
  clear b0 b1 b2 b3 b4 b5 hS2 hb2
  go_wp2_with fail
  refine (at_any c t x m k e q _).mono ?_
  rintro r w4 ⟨rfl, hb4⟩
  rw [HV.out.2.1]
  have hS4 := hS3.later hb4
  replace hb4 := hb3.trans (hb4.mono hb3.size)
  obtain ⟨a0, a1, a2, a3, a4, a5, b0, b1, b2, b3, b4, b5⟩ := hS4.sp
  clear b0 b1 b2 b3 b4 b5 hS3 hb3
  go_wp2_with fail
  refine (top_any c t x m k e _).mono ?_
  rintro r w5 ⟨rfl, hb5⟩
  rw [HV.out.2.2.1]
  have hS5 := hS4.later hb5
  replace hb5 := hb4.trans (hb5.mono hb4.size)
  obtain ⟨a0, a1, a2, a3, a4, a5, b0, b1, b2, b3, b4, b5⟩ := hS5.sp
  clear b0 b1 b2 b3 b4 b5 hS4 hb4
  go_wp2_with fail
  refine (least_any c t x m k e _).mono ?_
  rintro r w6 ⟨rfl, hb6⟩
  rw [HV.out.2.2.2]
  replace hb6 := hb5.trans (hb6.mono hb5.size)
  go_wp2
  go_ret
  exact ⟨by first | rfl | exact ret_b (decide_eq_true (by omega)), hb6⟩

theorem law_fall (c t x m k e p q : Int) (w : World) (hL : Lim w) :
    Calls Tryd.prog 4 #[.agg #[.int .i64 c, .int .i64 t, .int .i64 x, .int .i64 m, .int .i64 k, .int .i64 e], .int .i64 p, .int .i64 q] w fun r w' => r = .returned (.bool true) ∧ Below w.heap.size w w' := by
  by_cases h : maySp ⟨c, t, x, m, k, e⟩ = true ∧ t ≤ p ∧ p ≤ q ∧ q ≤ x
  · exact fall_in c t x m k e p q w hL h.1 h.2.1 h.2.2.1 h.2.2.2
  · exact fall_no c t x m k e p q w hL h
end Go.Proofs.YtchhniejahbgcaaDoor
