/- Walks of the document's own At, Top and Least of chapter 6. -/
import Derived.Test.YteibaiflljcghaaDoorU4
import Derived.Test.YteibaiflljcghaaDoorW6
import Derived.Test.YteibaiflljcghaaDoorE9
namespace Go.Proofs.YteibaiflljcghaaDoor
open Go.RowKit

/-- What the numbers of a quotient are. -/
theorem at_nums {c m k p : Int} (c0 : 1 ≤ c) (c1 : c ≤ 6) (m0 : 1 ≤ m) (m1 : m ≤ 6) (k0 : 1 ≤ k) (k1 : k ≤ 6) (p0 : 1 ≤ p) (p1 : p ≤ 48) :
    (1 ≤ c * m ∧ c * m ≤ 36) ∧ (1 ≤ k * p ∧ k * p ≤ 288) ∧ 0 ≤ c * m * 1048576 / (k * p) ∧ c * m * 1048576 / (k * p) ≤ c * m * 1048576 ∧
    0 ≤ c * m * 1048576 / (k * p) * k ∧ c * m * 1048576 / (k * p) * k ≤ 226492416 ∧ 0 ≤ c * m * 1048576 / (k * p) * k * p ∧ c * m * 1048576 / (k * p) * k * p ≤ c * m * 1048576 ∧
    c * m * 1048576 / (k * p) * k * p = c * m * 1048576 / (k * p) * (k * p) := by
  have h1 : 1 ≤ c * m ∧ c * m ≤ 36 := by rcases six c0 c1 with rfl | rfl | rfl | rfl | rfl | rfl <;> omega
  have h2 : 1 ≤ k * p ∧ k * p ≤ 288 := by rcases six k0 k1 with rfl | rfl | rfl | rfl | rfl | rfl <;> omega
  generalize c * m = a at *
  have q0 : 0 ≤ a * 1048576 / (k * p) := Int.ediv_nonneg (by omega) (by omega)
  have q1 : a * 1048576 / (k * p) ≤ a * 1048576 := Int.ediv_le_self _ (by omega)
  have e : a * 1048576 / (k * p) * k * p = a * 1048576 / (k * p) * (k * p) := Int.mul_assoc _ _ _
  have q2 : 0 ≤ a * 1048576 / (k * p) * (k * p) := Int.mul_nonneg q0 (by omega)
  have q3 : a * 1048576 / (k * p) * (k * p) ≤ a * 1048576 := Int.ediv_mul_le _ (by omega)
  refine ⟨h1, h2, q0, q1, Int.mul_nonneg q0 (by omega), ?_, by rw [e]; exact q2, by rw [e]; exact q3, e⟩
  generalize a * 1048576 / (k * p) = n at *
  rcases six k0 k1 with rfl | rfl | rfl | rfl | rfl | rfl <;> omega

set_option maxHeartbeats 1000000 in
set_option maxRecDepth 100000 in
theorem refAt_any (c t x m k e p : Int) (w : World) :
    Calls Tryd.prog 29 #[.agg #[.int .i64 c, .int .i64 t, .int .i64 x, .int .i64 m, .int .i64 k, .int .i64 e], .int .i64 p] w fun r w' => r = .returned (.int .i64 (atV ⟨c, t, x, m, k, e⟩ p)) ∧ Below w.heap.size w w' := by
  have hS : Six (w.alloc (.cells #[.int .i64 c, .int .i64 t, .int .i64 x, .int .i64 m, .int .i64 k, .int .i64 e] 24)) w.heap.size (Sp.at ⟨c, t, x, m, k, e⟩) := Six.new w ⟨c, t, x, m, k, e⟩
  cases h1 : maySp ⟨c, t, x, m, k, e⟩
  · have H1 : Hid (maySp ⟨c, t, x, m, k, e⟩ = false) := h1
    have H : Hid (atV ⟨c, t, x, m, k, e⟩ p = 0) := by show _ = _; unfold atV atB; rw [h1]; rfl
    clear h1
    go_enter Tryd.func29, Tryd.ntmps29
    go_wp2_with fail
    refine (refSp_any c t x m k e _).mono ?_
    rintro r w1 ⟨rfl, hb1⟩
    rw [H1.out]
    go_wp2
    go_ret
    exact ⟨ret_i H.out.symm, ((Below.refl _ _).alloc (by simp) _).trans (hb1.mono (by simp))⟩
  · have H1 : Hid (maySp ⟨c, t, x, m, k, e⟩ = true) := h1
    by_cases g0 : p < t
    · have H : Hid (atV ⟨c, t, x, m, k, e⟩ p = 0) := by show _ = _; unfold atV atB wiB; simp only [h1, decide_eq_false (show ¬ (t ≤ p ∧ p ≤ x) by omega)]; rfl
      clear h1
      go_enter Tryd.func29, Tryd.ntmps29
      go_wp2_with fail
      refine (refSp_any c t x m k e _).mono ?_
      rintro r w1 ⟨rfl, hb1⟩
      have hS1 := hS.later hb1
      replace hb1 : Below w.heap.size w w1 := ((Below.refl _ _).alloc (by simp) _).trans (hb1.mono (by simp))
      obtain ⟨a0, a1, a2, a3, a4, a5, b0, b1, b2, b3, b4, b5⟩ := hS1.sp
      clear hS b0 b1 b2 b3 b4 b5
      rw [H1.out]
      go_wp2
      go_ret
      exact ⟨ret_i H.out.symm, hb1⟩
    · by_cases g1 : p > x
      · have H : Hid (atV ⟨c, t, x, m, k, e⟩ p = 0) := by show _ = _; unfold atV atB wiB; simp only [h1, decide_eq_false (show ¬ (t ≤ p ∧ p ≤ x) by omega)]; rfl
        clear h1
        go_enter Tryd.func29, Tryd.ntmps29
        go_wp2_with fail
        refine (refSp_any c t x m k e _).mono ?_
        rintro r w1 ⟨rfl, hb1⟩
        have hS1 := hS.later hb1
        replace hb1 : Below w.heap.size w w1 := ((Below.refl _ _).alloc (by simp) _).trans (hb1.mono (by simp))
        obtain ⟨a0, a1, a2, a3, a4, a5, b0, b1, b2, b3, b4, b5⟩ := hS1.sp
        clear hS b0 b1 b2 b3 b4 b5
        rw [H1.out]
        go_wp2
        go_ret
        exact ⟨ret_i H.out.symm, hb1⟩
      · have H : Hid (atV ⟨c, t, x, m, k, e⟩ p = cl (c * m * 1048576) (k * p)) := by show _ = _; unfold atV atB wiB; simp only [h1, decide_eq_true (show t ≤ p ∧ p ≤ x by omega)]; rfl
        obtain ⟨c0, c1, f2, f3, f4, ⟨m0, m1, k1⟩, e0, e1, f5⟩ := may_facts h1
        simp only at c0 c1 f2 f3 f4 m0 m1 k1 e0 e1 f5
        obtain ⟨⟨n0, n1⟩, ⟨n2, n3⟩, n4, n5, n6, n7, n8, n9, na⟩ := at_nums c0 c1 m0 (show m ≤ 6 by omega) (show 1 ≤ k by omega) k1 (show 1 ≤ p by omega) (show p ≤ 48 by omega)
        have v1 : IntKind.i64.wrap (c * m) = c * m := by rw [IntKind.wrap_i64]; omega
        have v2 : IntKind.i64.wrap (c * m * 1048576) = c * m * 1048576 := by rw [IntKind.wrap_i64]; omega
        have v3 : IntKind.i64.wrap (k * p) = k * p := by rw [IntKind.wrap_i64]; omega
        have v4 : IntKind.i64.wrap (c * m * 1048576 / (k * p) * k) = c * m * 1048576 / (k * p) * k := by rw [IntKind.wrap_i64]; omega
        have v5 : IntKind.i64.wrap (c * m * 1048576 / (k * p) * k * p) = c * m * 1048576 / (k * p) * k * p := by rw [IntKind.wrap_i64]; omega
        have m3 : 0 ≤ c * m * 1048576 := by omega
        clear h1 f5
        by_cases hl : c * m * 1048576 / (k * p) * k * p < c * m * 1048576
        · have HC : Hid (cl (c * m * 1048576) (k * p) = c * m * 1048576 / (k * p) + 1) := cl_mul (by rw [← na]; exact hl)
          clear na
          go_enter Tryd.func29, Tryd.ntmps29
          go_wp2_with fail
          refine (refSp_any c t x m k e _).mono ?_
          rintro r w1 ⟨rfl, hb1⟩
          have hS1 := hS.later hb1
          replace hb1 : Below w.heap.size w w1 := ((Below.refl _ _).alloc (by simp) _).trans (hb1.mono (by simp))
          obtain ⟨a0, a1, a2, a3, a4, a5, b0, b1, b2, b3, b4, b5⟩ := hS1.sp
          clear hS b0 b1 b2 b3 b4 b5
          rw [H1.out]
          go_wp2
          go_ret
          exact ⟨ret_i (HC.out.symm.trans H.out.symm), hb1⟩
        · have HC : Hid (cl (c * m * 1048576) (k * p) = c * m * 1048576 / (k * p)) := cl_mul0 n2 (by rw [← na]; exact hl)
          clear na
          go_enter Tryd.func29, Tryd.ntmps29
          go_wp2_with fail
          refine (refSp_any c t x m k e _).mono ?_
          rintro r w1 ⟨rfl, hb1⟩
          have hS1 := hS.later hb1
          replace hb1 : Below w.heap.size w w1 := ((Below.refl _ _).alloc (by simp) _).trans (hb1.mono (by simp))
          obtain ⟨a0, a1, a2, a3, a4, a5, b0, b1, b2, b3, b4, b5⟩ := hS1.sp
          clear hS b0 b1 b2 b3 b4 b5
          rw [H1.out]
          go_wp2
          go_ret
          exact ⟨ret_i (HC.out.symm.trans H.out.symm), hb1⟩
end Go.Proofs.YteibaiflljcghaaDoor
