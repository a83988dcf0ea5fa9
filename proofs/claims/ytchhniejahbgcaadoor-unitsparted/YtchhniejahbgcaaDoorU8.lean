/- The walk of the statement UnitsParted: it returns true, and writes nothing that was there. -/
import Derived.Test.YtchhniejahbgcaaDoorU7
namespace Go.Proofs.YtchhniejahbgcaaDoor
open Go.RowKit

theorem may_all {c t x m k e : Int} (h : maySp ⟨c, t, x, m, k, e⟩ = true) : maySp ⟨c, t, x, k, k, e⟩ = true := by
  obtain ⟨c0, c1, f2, f3, f4, ⟨m0, m1, k1⟩, e0, e1, f5⟩ := may_facts h
  rw [maySp_eq]
  exact decide_eq_true ⟨c0, c1, f2, f3, f4, ⟨Int.le_trans m0 m1, Int.le_refl _, k1⟩, e0, e1, f5⟩
theorem at_all {c t x m k e p : Int} (h : maySp ⟨c, t, x, m, k, e⟩ = true) (h0 : t ≤ p) (h1 : p ≤ x) : atV ⟨c, t, x, m, k, e⟩ p ≤ atV ⟨c, t, x, k, k, e⟩ p := by
  obtain ⟨c0, c1, f2, f3, f4, ⟨m0, m1, k1⟩, e0, e1, f5⟩ := may_facts h
  simp only at c0 c1 f2 f3 f4 m0 m1 k1
  obtain ⟨⟨n0, n1⟩, ⟨n2, n3⟩, _⟩ := at_nums6 c0 c1 m0 (show m ≤ 6 by omega) (show 1 ≤ k by omega) k1 (show 1 ≤ p by omega) (show p ≤ 48 by omega)
  rw [atV_yes h h0 h1, atV_yes (may_all h) h0 h1]
  refine cl_mono6 n2 ?_
  have : c * m ≤ c * k := Int.mul_le_mul_of_nonneg_left m1 (by omega)
  show c * m * 1048576 ≤ c * k * 1048576
  omega
theorem at_half {s : Sp} {p : Int} (h : maySp s = true) (h0 : s.t ≤ p) (h1 : 2 * p ≤ s.x) : atV s p ≤ 2 * atV s (2 * p) ∧ 2 * atV s (2 * p) ≤ atV s p + 1 := by
  obtain ⟨c0, c1, f2, f3, f4, ⟨m0, m1, k1⟩, e0, e1, f5⟩ := may_facts h
  obtain ⟨⟨n0, n1⟩, ⟨n2, n3⟩, _⟩ := at_nums6 c0 c1 m0 (show s.m ≤ 6 by omega) (show 1 ≤ s.k by omega) k1 (show 1 ≤ p by omega) (show p ≤ 48 by omega)
  rw [atV_yes h h0 (by omega), atV_yes h (by omega) h1]
  have ek : s.k * (2 * p) = 2 * (s.k * p) := Int.mul_left_comm _ _ _
  rw [ek]
  generalize s.c * s.m * 1048576 = A at *
  generalize s.k * p = B at *
  have g1 := cl_ge (a := A) (b := 2 * B) (by omega)
  have g2 := cl_lt (a := A) (b := 2 * B) (by omega)
  have g3 := cl_ge (a := A) (b := B) n2
  generalize cl A (2 * B) = z at *
  refine ⟨cl_le_of n2 ?_, ?_⟩
  · have : 2 * z * B = z * (2 * B) := by rw [Int.mul_comm 2 z, Int.mul_assoc]
    omega
  · generalize cl A B = y at *
    have e1 : (z - 1) * (2 * B) = (2 * (z - 1)) * B := by rw [Int.mul_comm 2 (z - 1), Int.mul_assoc]
    have e2 : (2 * (z - 1)) * B < y * B := by omega
    have := Int.lt_of_mul_lt_mul_right e2 (by omega)
    omega

set_option maxHeartbeats 1000000 in
set_option maxRecDepth 100000 in
theorem parted_no (c t x m k e p : Int) (w : World) (hL : Lim w) (h : ¬ (maySp ⟨c, t, x, m, k, e⟩ = true ∧ t ≤ p ∧ p ≤ 48 ∧ 2 * p ≤ x)) :
    Calls Tryd.prog 6 #[.agg #[.int .i64 c, .int .i64 t, .int .i64 x, .int .i64 m, .int .i64 k, .int .i64 e], .int .i64 p] w fun r w' => r = .returned (.bool true) ∧ Below w.heap.size w w' := by
  have hS : Six (w.alloc (.cells #[.int .i64 c, .int .i64 t, .int .i64 x, .int .i64 m, .int .i64 k, .int .i64 e] 23)) w.heap.size (Sp.at ⟨c, t, x, m, k, e⟩) := Six.new w ⟨c, t, x, m, k, e⟩
  have HL : Hid (Lim (w.alloc (.cells #[.int .i64 c, .int .i64 t, .int .i64 x, .int .i64 m, .int .i64 k, .int .i64 e] 23))) := hL.later ((Below.refl _ _).alloc (Nat.le_refl _) _)
  clear hL
  have H : Hid (¬ (maySp ⟨c, t, x, m, k, e⟩ = true ∧ t ≤ p ∧ p ≤ 48 ∧ 2 * p ≤ x)) := h
  clear h
  go_enter Tryd.func6, Tryd.ntmps6
  go_wp2_with fail
  refine (awake6_any _ HL.out).mono ?_
  rintro r w1 ⟨rfl, hb1⟩
  have hS1 := hS.later hb1
  replace hb1 : Below w.heap.size w w1 := ((Below.refl _ _).alloc (by simp) _).trans (hb1.mono (by simp))
  obtain ⟨a0, a1, a2, a3, a4, a5, b0, b1, b2, b3, b4, b5⟩ := hS1.sp
  clear hS b0 b1 b2 b3 b4 b5
  go_wp2_with fail
  refine (spmay_any c t x m k e _).mono ?_
  rintro r w2 ⟨rfl, hb2⟩
  have hS2 := hS1.later hb2
  replace hb2 := hb1.trans (hb2.mono hb1.size)
  obtain ⟨a0, a1, a2, a3, a4, a5, b0, b1, b2, b3, b4, b5⟩ := hS2.sp
  clear b0 b1 b2 b3 b4 b5 hS1 hS2 hb1
  cases h1 : maySp ⟨c, t, x, m, k, e⟩
  · go_wp2
    go_ret
    exact ⟨rfl, hb2⟩
  · by_cases g0 : p < t
    · go_wp2
      go_ret
      exact ⟨rfl, hb2⟩
    · by_cases g1 : wrap64 (2 * p) > x
      · go_wp2
        go_ret
        exact ⟨rfl, hb2⟩
      · have g2 : p > 48 := by
          have h3 : ¬ (t ≤ p ∧ p ≤ 48 ∧ 2 * p ≤ x) := fun h => H.out ⟨h1, h⟩
          obtain ⟨c0, c1, f2, _⟩ := may_facts h1
          simp only at c0 c1 f2
          by_cases hp : p ≤ 48
          · have : wrap64 (2 * p) = 2 * p := by unfold wrap64; omega
            rw [this] at g1
            omega
          · omega
        go_wp2
        go_ret
        exact ⟨rfl, hb2⟩

set_option maxHeartbeats 1000000 in
set_option maxRecDepth 100000 in
theorem parted_in (c t x m k e p : Int) (w : World) (hL : Lim w) (h : maySp ⟨c, t, x, m, k, e⟩ = true) (h0 : t ≤ p) (h1 : p ≤ 48) (h2 : 2 * p ≤ x) :
    Calls Tryd.prog 6 #[.agg #[.int .i64 c, .int .i64 t, .int .i64 x, .int .i64 m, .int .i64 k, .int .i64 e], .int .i64 p] w fun r w' => r = .returned (.bool true) ∧ Below w.heap.size w w' := by
  have hS : Six (w.alloc (.cells #[.int .i64 c, .int .i64 t, .int .i64 x, .int .i64 m, .int .i64 k, .int .i64 e] 23)) w.heap.size (Sp.at ⟨c, t, x, m, k, e⟩) := Six.new w ⟨c, t, x, m, k, e⟩
  have HL : Hid (Lim (w.alloc (.cells #[.int .i64 c, .int .i64 t, .int .i64 x, .int .i64 m, .int .i64 k, .int .i64 e] 23))) := hL.later ((Below.refl _ _).alloc (Nat.le_refl _) _)
  clear hL
  obtain ⟨c0, c1, f2, f3, f4, ⟨m0, m1, k1⟩, e0, e1, f5⟩ := may_facts h
  simp only at c0 c1 f2 f3 f4 m0 m1 k1
  clear f5 e0 e1
  obtain ⟨u0, u1, _, _⟩ := at_facts (p := p) h h0 (show p ≤ x by omega)
  obtain ⟨d0, d1, _, _⟩ := at_facts (p := 2 * p) h (show t ≤ 2 * p by omega) h2
  obtain ⟨y0, y1⟩ := at_half (p := p) h h0 h2
  have y2 := at_all (p := p) h h0 (show p ≤ x by omega)
  obtain ⟨a, ha⟩ : ∃ a, atV ⟨c, t, x, m, k, e⟩ p = a := ⟨_, rfl⟩
  obtain ⟨b, hb⟩ : ∃ b, atV ⟨c, t, x, m, k, e⟩ (2 * p) = b := ⟨_, rfl⟩
  obtain ⟨z, hz⟩ : ∃ z, atV ⟨c, t, x, k, k, e⟩ p = z := ⟨_, rfl⟩
  have HV : Hid (atV ⟨c, t, x, m, k, e⟩ p = a ∧ atV ⟨c, t, x, m, k, e⟩ (2 * p) = b ∧ atV ⟨c, t, x, k, k, e⟩ p = z) := ⟨ha, hb, hz⟩
  rw [ha] at u0 u1 y0 y1 y2
  rw [hb] at d0 d1 y0 y1
  rw [hz] at y2
  clear ha hb hz
  have H : Hid (maySp ⟨c, t, x, m, k, e⟩ = true) := h
  clear h
  go_enter Tryd.func6, Tryd.ntmps6
  go_wp2_with fail
  refine (awake6_any _ HL.out).mono ?_
  rintro r w1 ⟨rfl, hb1⟩
  have hS1 := hS.later hb1
  replace hb1 : Below w.heap.size w w1 := ((Below.refl _ _).alloc (by simp) _).trans (hb1.mono (by simp))
  obtain ⟨a0, a1, a2, a3, a4, a5, b0, b1, b2, b3, b4, b5⟩ := hS1.sp
  clear hS b0 b1 b2 b3 b4 b5
  go_wp2_with fail
  refine (spmay_any c t x m k e _).mono ?_
  rintro r w2 ⟨rfl, hb2⟩
  have hS2 := hS1.later hb2
  replace hb2 := hb1.trans (hb2.mono hb1.size)
  obtain ⟨a0, a1, a2, a3, a4, a5, b0, b1, b2, b3, b4, b5⟩ := hS2.sp
  clear b0 b1 b2 b3 b4 b5 hS1 hb1
  rw [H.out]
  go_wp2_with fail
  refine (at_any c t x m k e p _).mono ?_
  rintro r w3 ⟨rfl, hb3⟩
  rw [HV.out.1]
  have hS3 := hS2.later hb3
  replace hb3 := hb2.trans (hb3.mono hb2.size)
  obtain ⟨a0, a1, a2, a3, a4, a5, b0, b1, b2, b3, b4, b5⟩ := hS3.sp
  clear b0 b1 b2 b3 b4 b5 hS2 hb2
  go_wp2_with fail
  refine (at_any c t x m k e (2 * p) _).mono ?_
  rintro r w4 ⟨rfl, hb4⟩
  rw [HV.out.2.1]
  have hS4 := hS3.later hb4
  replace hb4 := hb3.trans (hb4.mono hb3.size)
  obtain ⟨a0, a1, a2, a3, a4, a5, b0, b1, b2, b3, b4, b5⟩ := hS4.sp
  have s4 := hS4.lt
  clear b0 b1 b2 b3 b4 b5 hS3 hb3
  have s5 : w.heap.size < w4.heap.size + 1 := by omega
  go_wp2_with fail
  refine (at_any c t x k k e p _).mono ?_
  rintro r w5 ⟨rfl, hb5⟩
  rw [HV.out.2.2]
  go_wp2
  go_ret
  exact ⟨by first | rfl | exact ret_b (decide_eq_true (by omega)), (hb4.alloc hb4.size _).trans (hb5.mono (by simp; have := hb4.size; omega))⟩

theorem law_parted (c t x m k e p : Int) (w : World) (hL : Lim w) :
    Calls Tryd.prog 6 #[.agg #[.int .i64 c, .int .i64 t, .int .i64 x, .int .i64 m, .int .i64 k, .int .i64 e], .int .i64 p] w fun r w' => r = .returned (.bool true) ∧ Below w.heap.size w w' := by
  by_cases h : maySp ⟨c, t, x, m, k, e⟩ = true ∧ t ≤ p ∧ p ≤ 48 ∧ 2 * p ≤ x
  · exact parted_in c t x m k e p w hL h.1 h.2.1 h.2.2.1 h.2.2.2
  · exact parted_no c t x m k e p w hL h
end Go.Proofs.YtchhniejahbgcaaDoor
