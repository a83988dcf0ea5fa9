/- What the statement PeriodEnds comes to. -/
import Derived.Test.YtociniaaeflokaaB10
namespace Go.Proofs.Ytociniaaeflokaa
open Go.RowKit Go.Shelf

theorem at_zero {s : Sp} {p : Int} (h : (maySp s && wiB p s.t s.x) = false) : atV s p = 0 := by unfold atV atB; rw [h]; rfl

section
variable (c t x m k e p f u : Int)

set_option maxHeartbeats 2000000 in
set_option maxRecDepth 100000 in
theorem pends_no (w : World) (h : atV ⟨c, t, x, m, k, e⟩ p = 0) :
    Calls Try.prog 6 #[.agg #[.int .i64 c, .int .i64 t, .int .i64 x, .int .i64 m, .int .i64 k, .int .i64 e], .int .i64 p, .int .i64 f, .int .i64 u] w fun r w' => r = .returned (.bool true) ∧ Below w.heap.size w w' := by
  have hS : Six (w.alloc (.cells #[.int .i64 c, .int .i64 t, .int .i64 x, .int .i64 m, .int .i64 k, .int .i64 e] 23)) w.heap.size (Sp.at ⟨c, t, x, m, k, e⟩) := Six.new w ⟨c, t, x, m, k, e⟩
  have HA : Hid (atV ⟨c, t, x, m, k, e⟩ p = 0) := h
  clear h
  go_enter Try.func6, Try.ntmps6
  go_wp2_with fail
  refine (awake8_any _).mono ?_
  rintro r w1 ⟨rfl, hb1⟩
  have hS1 := hS.later hb1
  replace hb1 : Below w.heap.size w w1 := ((Below.refl _ _).alloc (by simp) _).trans (hb1.mono (by simp))
  obtain ⟨a0, a1, a2, a3, a4, a5, b0, b1, b2, b3, b4, b5⟩ := hS1.sp
  clear hS b0 b1 b2 b3 b4 b5
  go_wp2_with fail
  refine (at_any c t x m k e p _).mono ?_
  rintro r w2 ⟨rfl, hb2⟩
  rw [HA.out]
  have hS2 := hS1.later hb2
  replace hb2 := hb1.trans (hb2.mono hb1.size)
  clear hS1 hb1 a0 a1 a2 a3 a4 a5
  obtain ⟨a0, a1, a2, a3, a4, a5, b0, b1, b2, b3, b4, b5⟩ := hS2.sp
  clear b0 b1 b2 b3 b4 b5
  go_wp2_with fail
  go_ret
  exact ⟨by first | rfl | exact ret_b (by simp) | exact ret_b (decide_eq_true (by omega)), hb2⟩

set_option maxHeartbeats 2000000 in
set_option maxRecDepth 100000 in
theorem pends_out (w : World) (h : 1 ≤ atV ⟨c, t, x, m, k, e⟩ p) (hu : ¬ (0 ≤ f ∧ f ≤ u ∧ u ≤ 1000000 ∧ u - f ≤ 5000)) :
    Calls Try.prog 6 #[.agg #[.int .i64 c, .int .i64 t, .int .i64 x, .int .i64 m, .int .i64 k, .int .i64 e], .int .i64 p, .int .i64 f, .int .i64 u] w fun r w' => r = .returned (.bool true) ∧ Below w.heap.size w w' := by
  have hS : Six (w.alloc (.cells #[.int .i64 c, .int .i64 t, .int .i64 x, .int .i64 m, .int .i64 k, .int .i64 e] 23)) w.heap.size (Sp.at ⟨c, t, x, m, k, e⟩) := Six.new w ⟨c, t, x, m, k, e⟩
  obtain ⟨a, ha⟩ : ∃ a, atV ⟨c, t, x, m, k, e⟩ p = a := ⟨_, rfl⟩
  rw [ha] at h
  have HA : Hid (atV ⟨c, t, x, m, k, e⟩ p = a) := ha
  clear ha
  have h0 : (a == 0) = false := by simp; omega
  by_cases g0 : f < 0
  · clear hu
    go_enter Try.func6, Try.ntmps6
    go_wp2_with fail
    refine (awake8_any _).mono ?_
    rintro r w1 ⟨rfl, hb1⟩
    have hS1 := hS.later hb1
    replace hb1 : Below w.heap.size w w1 := ((Below.refl _ _).alloc (by simp) _).trans (hb1.mono (by simp))
    obtain ⟨a0, a1, a2, a3, a4, a5, b0, b1, b2, b3, b4, b5⟩ := hS1.sp
    clear hS b0 b1 b2 b3 b4 b5
    go_wp2_with fail
    refine (at_any c t x m k e p _).mono ?_
    rintro r w2 ⟨rfl, hb2⟩
    rw [HA.out]
    have hS2 := hS1.later hb2
    replace hb2 := hb1.trans (hb2.mono hb1.size)
    clear hS1 hb1 a0 a1 a2 a3 a4 a5
    obtain ⟨a0, a1, a2, a3, a4, a5, b0, b1, b2, b3, b4, b5⟩ := hS2.sp
    clear b0 b1 b2 b3 b4 b5
    go_wp2_with fail
    go_ret
    exact ⟨by first | rfl | exact ret_b (by simp) | exact ret_b (decide_eq_true (by omega)), hb2⟩
  · have g0' := Int.not_lt.1 g0
    by_cases g1 : u < f
    · clear hu
      go_enter Try.func6, Try.ntmps6
      go_wp2_with fail
      refine (awake8_any _).mono ?_
      rintro r w1 ⟨rfl, hb1⟩
      have hS1 := hS.later hb1
      replace hb1 : Below w.heap.size w w1 := ((Below.refl _ _).alloc (by simp) _).trans (hb1.mono (by simp))
      obtain ⟨a0, a1, a2, a3, a4, a5, b0, b1, b2, b3, b4, b5⟩ := hS1.sp
      clear hS b0 b1 b2 b3 b4 b5
      go_wp2_with fail
      refine (at_any c t x m k e p _).mono ?_
      rintro r w2 ⟨rfl, hb2⟩
      rw [HA.out]
      have hS2 := hS1.later hb2
      replace hb2 := hb1.trans (hb2.mono hb1.size)
      clear hS1 hb1 a0 a1 a2 a3 a4 a5
      obtain ⟨a0, a1, a2, a3, a4, a5, b0, b1, b2, b3, b4, b5⟩ := hS2.sp
      clear b0 b1 b2 b3 b4 b5
      go_wp2_with fail
      go_ret
      exact ⟨by first | rfl | exact ret_b (by simp) | exact ret_b (decide_eq_true (by omega)), hb2⟩
    · have g1' := Int.not_lt.1 g1
      by_cases g2 : 1000000 < u
      · clear hu
        go_enter Try.func6, Try.ntmps6
        go_wp2_with fail
        refine (awake8_any _).mono ?_
        rintro r w1 ⟨rfl, hb1⟩
        have hS1 := hS.later hb1
        replace hb1 : Below w.heap.size w w1 := ((Below.refl _ _).alloc (by simp) _).trans (hb1.mono (by simp))
        obtain ⟨a0, a1, a2, a3, a4, a5, b0, b1, b2, b3, b4, b5⟩ := hS1.sp
        clear hS b0 b1 b2 b3 b4 b5
        go_wp2_with fail
        refine (at_any c t x m k e p _).mono ?_
        rintro r w2 ⟨rfl, hb2⟩
        rw [HA.out]
        have hS2 := hS1.later hb2
        replace hb2 := hb1.trans (hb2.mono hb1.size)
        clear hS1 hb1 a0 a1 a2 a3 a4 a5
        obtain ⟨a0, a1, a2, a3, a4, a5, b0, b1, b2, b3, b4, b5⟩ := hS2.sp
        clear b0 b1 b2 b3 b4 b5
        go_wp2_with fail
        go_ret
        exact ⟨by first | rfl | exact ret_b (by simp) | exact ret_b (decide_eq_true (by omega)), hb2⟩
      · have g2' := Int.not_lt.1 g2
        have g3 : 5000 < u - f := by omega
        clear hu
        go_enter Try.func6, Try.ntmps6
        go_wp2_with fail
        refine (awake8_any _).mono ?_
        rintro r w1 ⟨rfl, hb1⟩
        have hS1 := hS.later hb1
        replace hb1 : Below w.heap.size w w1 := ((Below.refl _ _).alloc (by simp) _).trans (hb1.mono (by simp))
        obtain ⟨a0, a1, a2, a3, a4, a5, b0, b1, b2, b3, b4, b5⟩ := hS1.sp
        clear hS b0 b1 b2 b3 b4 b5
        go_wp2_with fail
        refine (at_any c t x m k e p _).mono ?_
        rintro r w2 ⟨rfl, hb2⟩
        rw [HA.out]
        have hS2 := hS1.later hb2
        replace hb2 := hb1.trans (hb2.mono hb1.size)
        clear hS1 hb1 a0 a1 a2 a3 a4 a5
        obtain ⟨a0, a1, a2, a3, a4, a5, b0, b1, b2, b3, b4, b5⟩ := hS2.sp
        clear b0 b1 b2 b3 b4 b5
        go_wp2_with fail
        go_ret
        exact ⟨by first | rfl | exact ret_b (by simp) | exact ret_b (decide_eq_true (by omega)), hb2⟩

set_option maxHeartbeats 2000000 in
set_option maxRecDepth 100000 in
theorem pends_in (w : World) (hm : maySp ⟨c, t, x, m, k, e⟩ = true) (p0 : t ≤ p) (p1 : p ≤ x) (n0 : 0 ≤ f) (n1 : f ≤ u) (n2 : u ≤ 1000000) (n3 : u - f ≤ 5000) :
    Calls Try.prog 6 #[.agg #[.int .i64 c, .int .i64 t, .int .i64 x, .int .i64 m, .int .i64 k, .int .i64 e], .int .i64 p, .int .i64 f, .int .i64 u] w fun r w' => r = .returned (.bool true) ∧ Below w.heap.size w w' := by
  have hS : Six (w.alloc (.cells #[.int .i64 c, .int .i64 t, .int .i64 x, .int .i64 m, .int .i64 k, .int .i64 e] 23)) w.heap.size (Sp.at ⟨c, t, x, m, k, e⟩) := Six.new w ⟨c, t, x, m, k, e⟩
  obtain ⟨a, ha⟩ : ∃ a, atV ⟨c, t, x, m, k, e⟩ p = a := ⟨_, rfl⟩
  have h1 : 1 ≤ a := by rw [← ha]; exact (at_pos hm p0 p1).1
  have HA : Hid (atV ⟨c, t, x, m, k, e⟩ p = a) := ha
  clear ha
  have h0 : (a == 0) = false := by simp; omega
  obtain ⟨c0, c1, f2, f3, f4, _⟩ := may_facts hm
  simp only at c0 c1 f2 f3 f4
  have q0 : 1 ≤ p := by omega
  have q1 : p ≤ 48 := by omega
  have HL : endsL ⟨c, t, x, m, k, e⟩ p f u = lst7 (endN p f u) (rn (f + p) p) := ends_yes (show endB _ p f u = true by unfold endB; rw [hm, show wiB p t x = true from decide_eq_true ⟨p0, p1⟩, show nearB f u = true from decide_eq_true ⟨n0, n1, by omega, n3⟩]; rfl)
  have HR := (ends_runs q0 q1 n0 n1 (by omega)).lo
  have hN := end_eq q0 n1
  have hN1 := end_small q0 n1 n3
  obtain ⟨N, hNN⟩ : ∃ N, endN p f u = N := ⟨_, rfl⟩
  rw [hNN] at HL HR hN hN1
  have HL' : Hid (endsL ⟨c, t, x, m, k, e⟩ p f u = lst7 N (rn (f + p) p)) := HL
  have HR' : Hid (∀ i, i < N → rn (f + p) p i ≤ u) := HR
  have HN : Hid ((N : Int) = (u - f) / p) := hN
  clear hm HL HR hN hNN
  go_enter Try.func6, Try.ntmps6
  go_wp2_with fail
  refine (awake8_any _).mono ?_
  rintro r w1 ⟨rfl, hb1⟩
  have hS1 := hS.later hb1
  replace hb1 : Below w.heap.size w w1 := ((Below.refl _ _).alloc (by simp) _).trans (hb1.mono (by simp))
  obtain ⟨a0, a1, a2, a3, a4, a5, b0, b1, b2, b3, b4, b5⟩ := hS1.sp
  clear hS b0 b1 b2 b3 b4 b5
  go_wp2_with fail
  refine (at_any c t x m k e p _).mono ?_
  rintro r w2 ⟨rfl, hb2⟩
  rw [HA.out]
  have hS2 := hS1.later hb2
  replace hb2 := hb1.trans (hb2.mono hb1.size)
  clear hS1 hb1 a0 a1 a2 a3 a4 a5
  obtain ⟨a0, a1, a2, a3, a4, a5, b0, b1, b2, b3, b4, b5⟩ := hS2.sp
  clear b0 b1 b2 b3 b4 b5
  go_wp2_with fail
  refine (perEnds_any c t x m k e p f u _).mono ?_
  rintro r w3 ⟨v, rfl, hv, hb3⟩
  replace hb3 := hb2.trans (hb3.mono hb2.size)
  rw [HL'.out] at hv
  obtain ⟨ad, cap, rfl, k1, k2, k3⟩ := nums_open hv.nums
  clear hv hS2 hb2 a0 a1 a2 a3 a4 a5
  have e0 : ((N : Int) == (u - f) / p) = true := by simpa using HN.out
  go_wp2_with fail
  go_loop [11] (fun v => ∃ j : Nat, j ≤ N ∧ v = .int .i64 j) (fun v => ((N : Int) - intOf v).toNat)
  case atStart => exact ⟨0, Nat.zero_le _, rfl⟩
  case round =>
    obtain ⟨j, hj, rfl⟩ := hrel
    by_cases hlt : j < N
    · obtain ⟨b, o, rfl, k4⟩ := k3 (by omega)
      have cj := k4 j hlt
      have y1 := HR'.out j hlt
      have y0 := rn_ge (f := f + p) q0 j
      have ey : f + ((j : Int) + 1) * p = rn (f + p) p j := by unfold rn; rw [Int.add_mul]; omega
      obtain ⟨y, hy⟩ : ∃ y, rn (f + p) p j = y := ⟨_, rfl⟩
      rw [hy] at cj y1 y0 ey
      clear hy k3 k4
      obtain ⟨z, hz⟩ : ∃ z, ((j : Int) + 1) * p = z := ⟨_, rfl⟩
      have z1 : z ≤ y - f := by omega
      have z2 : y - f ≤ z := by omega
      have e1 : IntKind.i64.wrap (((j : Int) + 1) * p) = z := by rw [hz, IntKind.wrap_i64]; omega
      have e2 : (y == f + z) = true := by simp; omega
      clear ey hz
      have hlt' : (j : Int) < N := by omega
      go_wp2_with fail
      go_round
      case rel => exact ⟨j + 1, by omega, by simp⟩
      case measure => simp [intOf]; omega
    · obtain rfl : j = N := by omega
      go_wp2_with fail
      go_ret
      exact ⟨by first | rfl | exact ret_b (by simp) | exact ret_b e0, hb3⟩

theorem law_pends (w : World) : Calls Try.prog 6 #[.agg #[.int .i64 c, .int .i64 t, .int .i64 x, .int .i64 m, .int .i64 k, .int .i64 e], .int .i64 p, .int .i64 f, .int .i64 u] w fun r w' => r = .returned (.bool true) ∧ Below w.heap.size w w' := by
  cases h : (maySp ⟨c, t, x, m, k, e⟩ && wiB p t x) with
  | false => exact pends_no c t x m k e p f u w (at_zero h)
  | true =>
    rw [Bool.and_eq_true] at h
    have hp := of_decide_eq_true (show decide (t ≤ p ∧ p ≤ x) = true from h.2)
    by_cases hu : 0 ≤ f ∧ f ≤ u ∧ u ≤ 1000000 ∧ u - f ≤ 5000
    · exact pends_in c t x m k e p f u w h.1 hp.1 hp.2 hu.1 hu.2.1 hu.2.2.1 hu.2.2.2
    · exact pends_out c t x m k e p f u w (at_pos h.1 hp.1 hp.2).1 hu
end
end Go.Proofs.Ytociniaaeflokaa
