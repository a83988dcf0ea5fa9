/- Walks of At, Top and Least of package units. -/
import Derived.Test.YteibaiflljcghaaDoorU3
import Derived.Test.YteibaiflljcghaaDoorE4
import Derived.Test.YteibaiflljcghaaDoorF1
import Derived.Deep.RegionHeld3
namespace Go.Proofs.YteibaiflljcghaaDoor
open Go.RowKit

/-- Has a task units at the period p? And how many? -/
def atB (s : Sp) (p : Int) : Bool := maySp s && wiB p s.t s.x
def atV (s : Sp) (p : Int) : Int := bif atB s p then cl (s.c * s.m * 1048576) (s.k * p) else 0
theorem may_facts {s : Sp} (h : maySp s = true) : 1 ≤ s.c ∧ s.c ≤ 6 ∧ s.c ≤ s.t ∧ s.t ≤ s.x ∧ s.x ≤ 48 ∧ (1 ≤ s.m ∧ s.m ≤ s.k ∧ s.k ≤ 6) ∧ 0 ≤ s.e ∧ s.e ≤ 8 ∧ (s.e ≠ 0 ∨ s.t = s.x) := by
  rw [maySp_eq] at h; exact of_decide_eq_true h
theorem okq_at {c m k p : Int} (c0 : 1 ≤ c) (c1 : c ≤ 6) (m0 : 1 ≤ m) (m1 : m ≤ 6) (k0 : 1 ≤ k) (k1 : k ≤ 6) (p0 : 1 ≤ p) (p1 : p ≤ 48) : okq (c * m * 1048576) (k * p) := by
  have h1 : 1 ≤ c * m ∧ c * m ≤ 36 := by rcases six c0 c1 with rfl | rfl | rfl | rfl | rfl | rfl <;> omega
  have h2 : 1 ≤ k * p ∧ k * p ≤ 288 := by rcases six k0 k1 with rfl | rfl | rfl | rfl | rfl | rfl <;> omega
  unfold okq; omega

set_option maxHeartbeats 1000000 in
set_option maxRecDepth 100000 in
theorem at_any (c t x m k e p : Int) (w : World) :
    Calls Tryd.prog 26 #[.agg #[.int .i64 c, .int .i64 t, .int .i64 x, .int .i64 m, .int .i64 k, .int .i64 e], .int .i64 p] w fun r w' => r = .returned (.int .i64 (atV ⟨c, t, x, m, k, e⟩ p)) ∧ Below w.heap.size w w' := by
  have hS : Six (w.alloc (.cells #[.int .i64 c, .int .i64 t, .int .i64 x, .int .i64 m, .int .i64 k, .int .i64 e] 24)) w.heap.size (Sp.at ⟨c, t, x, m, k, e⟩) := Six.new w ⟨c, t, x, m, k, e⟩
  cases h1 : maySp ⟨c, t, x, m, k, e⟩
  · have H1 : Hid (maySp ⟨c, t, x, m, k, e⟩ = false) := h1
    have H : Hid (atV ⟨c, t, x, m, k, e⟩ p = 0) := by show _ = _; unfold atV atB; rw [h1]; rfl
    clear h1
    go_enter Tryd.func26, Tryd.ntmps26
    go_wp2_with fail
    refine (spmay_any c t x m k e _).mono ?_
    rintro r w1 ⟨rfl, hb1⟩
    rw [H1.out]
    go_wp2
    go_ret
    exact ⟨ret_i H.out.symm, ((Below.refl _ _).alloc (by simp) _).trans (hb1.mono (by simp))⟩
  · have H1 : Hid (maySp ⟨c, t, x, m, k, e⟩ = true) := h1
    cases h2 : wiB p t x
    · have H2 : Hid (wiB p t x = false) := h2
      have H : Hid (atV ⟨c, t, x, m, k, e⟩ p = 0) := by show _ = _; unfold atV atB; simp only [h1, h2]; rfl
      clear h1 h2
      go_enter Tryd.func26, Tryd.ntmps26
      go_wp2_with fail
      refine (spmay_any c t x m k e _).mono ?_
      rintro r w1 ⟨rfl, hb1⟩
      have hS1 := hS.later hb1
      replace hb1 : Below w.heap.size w w1 := ((Below.refl _ _).alloc (by simp) _).trans (hb1.mono (by simp))
      obtain ⟨a0, a1, a2, a3, a4, a5, b0, b1, b2, b3, b4, b5⟩ := hS1.sp
      clear hS
      rw [H1.out]
      go_wp2_with fail
      refine (within6_any p t x _).mono ?_
      rintro r w2 ⟨rfl, rfl⟩
      rw [H2.out]
      go_wp2
      go_ret
      exact ⟨ret_i H.out.symm, hb1⟩
    · have H2 : Hid (wiB p t x = true) := h2
      have H : Hid (atV ⟨c, t, x, m, k, e⟩ p = cl (c * m * 1048576) (k * p)) := by show _ = _; unfold atV atB; simp only [h1, h2]; rfl
      obtain ⟨c0, c1, f2, f3, f4, ⟨m0, m1, k1⟩, e0, e1, f5⟩ := may_facts h1
      have hp := of_decide_eq_true (show decide (t ≤ p ∧ p ≤ x) = true from h2)
      simp only at c0 c1 f2 f3 f4 m0 m1 k1 e0 e1 f5
      obtain ⟨p0, p1⟩ := hp
      have q0 : 1 ≤ p := by omega
      have q1 : p ≤ 48 := by omega
      have k0 : 1 ≤ k := by omega
      have m2 : m ≤ 6 := by omega
      have HQ : Hid (okq (c * m * 1048576) (k * p)) := okq_at c0 c1 m0 m2 k0 k1 q0 q1
      clear h1 h2 f5
      go_enter Tryd.func26, Tryd.ntmps26
      go_wp2_with fail
      refine (spmay_any c t x m k e _).mono ?_
      rintro r w1 ⟨rfl, hb1⟩
      have hS1 := hS.later hb1
      replace hb1 : Below w.heap.size w w1 := ((Below.refl _ _).alloc (by simp) _).trans (hb1.mono (by simp))
      obtain ⟨a0, a1, a2, a3, a4, a5, b0, b1, b2, b3, b4, b5⟩ := hS1.sp
      clear hS b0 b1 b2 b3 b4 b5
      rw [H1.out]
      go_wp2_with fail
      refine (within6_any p t x _).mono ?_
      rintro r w2 ⟨rfl, rfl⟩
      rw [H2.out]
      go_wp2_with fail
      have k5 : Five (w2.alloc (.cells #[.int .i64 c, .int .i64 m, .int .i64 1048576, .int .i64 k, .int .i64 p] 3)) w2.heap.size c m 1048576 k p := by simp [Five]
      have hb2 : Below w.heap.size w (w2.alloc (.cells #[.int .i64 c, .int .i64 m, .int .i64 1048576, .int .i64 k, .int .i64 p] 3)) := hb1.alloc hb1.size _
      generalize w2.alloc (.cells #[.int .i64 c, .int .i64 m, .int .i64 1048576, .int .i64 k, .int .i64 p] 3) = W at *
      have HE : Hid (Below w.heap.size w W) := hb2
      have H5 : Hid (Five W w2.heap.size c m 1048576 k p) := k5
      have s5 := hb2.size
      clear k5 hb2 a0 a1 a2 a3 a4 a5 hS1 hb1
      go_region_held3 (fun w' => True ∧ Below W.heap.size W w')
        (first | exact ⟨trivial, bstep (by assumption) (sBel (by assumption))⟩ | exact ⟨trivial, (Below.refl _ _).drew⟩)
        (first
        | (go_at_call 42; refine (prodx_any _ c m k p _ _ _ (H5.out.later (sBel (by assumption))) c0 c1 m0 m2 k0 k1 q0 q1 (by simp)).mono ?_; rintro r w3 ⟨rfl, hw3⟩; obtain rfl := hw3.symm; first | rw [prX0] | rw [prX3])
        | (go_at_call 34; refine (ceil_yes _ _ _ HQ.out.1 HQ.out.2.1 HQ.out.2.2.1 HQ.out.2.2.2).mono ?_; rintro r w4 ⟨rfl, hb4⟩))
      all_goals
        go_wp2
        go_ret
        exact ⟨ret_i H.out.symm, HE.out.trans ((sBel (by assumption)).mono s5)⟩
end Go.Proofs.YteibaiflljcghaaDoor
