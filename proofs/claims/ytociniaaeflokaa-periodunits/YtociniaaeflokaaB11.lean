/- What the statement PeriodUnits comes to. -/
import Derived.Test.YtociniaaeflokaaB10
namespace Go.Proofs.Ytociniaaeflokaa
open Go.RowKit Go.Shelf
section
variable (c t x m k e u : Int)

set_option maxHeartbeats 1000000 in
set_option maxRecDepth 100000 in
theorem punits_no (w : World) (h : maySp ⟨c, t, x, m, k, e⟩ = false) :
    Calls Try.prog 4 #[.agg #[.int .i64 c, .int .i64 t, .int .i64 x, .int .i64 m, .int .i64 k, .int .i64 e], .int .i64 u] w fun r w' => r = .returned (.bool true) ∧ Below w.heap.size w w' := by
  have hS : Six (w.alloc (.cells #[.int .i64 c, .int .i64 t, .int .i64 x, .int .i64 m, .int .i64 k, .int .i64 e] 23)) w.heap.size (Sp.at ⟨c, t, x, m, k, e⟩) := Six.new w ⟨c, t, x, m, k, e⟩
  have H1 : Hid (maySp ⟨c, t, x, m, k, e⟩ = false) := h
  clear h
  go_enter Try.func4, Try.ntmps4
  go_wp2_with fail
  refine (awake8_any _).mono ?_
  rintro r w1 ⟨rfl, hb1⟩
  have hS1 := hS.later hb1
  replace hb1 : Below w.heap.size w w1 := ((Below.refl _ _).alloc (by simp) _).trans (hb1.mono (by simp))
  obtain ⟨a0, a1, a2, a3, a4, a5, b0, b1, b2, b3, b4, b5⟩ := hS1.sp
  clear hS b0 b1 b2 b3 b4 b5
  go_wp2_with fail
  refine (spmay_any c t x m k e _).mono ?_
  rintro r w2 ⟨rfl, hb2⟩
  rw [H1.out]
  have hS2 := hS1.later hb2
  replace hb2 := hb1.trans (hb2.mono hb1.size)
  clear hS1 hb1 a0 a1 a2 a3 a4 a5
  obtain ⟨a0, a1, a2, a3, a4, a5, b0, b1, b2, b3, b4, b5⟩ := hS2.sp
  clear b0 b1 b2 b3 b4 b5
  go_wp2_with fail
  go_ret
  exact ⟨by first | rfl | exact ret_b (by simp) | exact ret_b (decide_eq_true (by omega)), hb2⟩

set_option maxHeartbeats 1000000 in
set_option maxRecDepth 100000 in
theorem punits_out (w : World) (h : maySp ⟨c, t, x, m, k, e⟩ = true) (hu : ¬ (1 ≤ u ∧ u ≤ 1048576)) :
    Calls Try.prog 4 #[.agg #[.int .i64 c, .int .i64 t, .int .i64 x, .int .i64 m, .int .i64 k, .int .i64 e], .int .i64 u] w fun r w' => r = .returned (.bool true) ∧ Below w.heap.size w w' := by
  have hS : Six (w.alloc (.cells #[.int .i64 c, .int .i64 t, .int .i64 x, .int .i64 m, .int .i64 k, .int .i64 e] 23)) w.heap.size (Sp.at ⟨c, t, x, m, k, e⟩) := Six.new w ⟨c, t, x, m, k, e⟩
  have H1 : Hid (maySp ⟨c, t, x, m, k, e⟩ = true) := h
  clear h
  by_cases u0 : u < 1
  · clear hu
    go_enter Try.func4, Try.ntmps4
    go_wp2_with fail
    refine (awake8_any _).mono ?_
    rintro r w1 ⟨rfl, hb1⟩
    have hS1 := hS.later hb1
    replace hb1 : Below w.heap.size w w1 := ((Below.refl _ _).alloc (by simp) _).trans (hb1.mono (by simp))
    obtain ⟨a0, a1, a2, a3, a4, a5, b0, b1, b2, b3, b4, b5⟩ := hS1.sp
    clear hS b0 b1 b2 b3 b4 b5
    go_wp2_with fail
    refine (spmay_any c t x m k e _).mono ?_
    rintro r w2 ⟨rfl, hb2⟩
    rw [H1.out]
    have hS2 := hS1.later hb2
    replace hb2 := hb1.trans (hb2.mono hb1.size)
    clear hS1 hb1 a0 a1 a2 a3 a4 a5
    obtain ⟨a0, a1, a2, a3, a4, a5, b0, b1, b2, b3, b4, b5⟩ := hS2.sp
    clear b0 b1 b2 b3 b4 b5
    go_wp2_with fail
    go_ret
    exact ⟨by first | rfl | exact ret_b (by simp) | exact ret_b (decide_eq_true (by omega)), hb2⟩
  · have u1 : 1048576 < u := by omega
    clear hu
    go_enter Try.func4, Try.ntmps4
    go_wp2_with fail
    refine (awake8_any _).mono ?_
    rintro r w1 ⟨rfl, hb1⟩
    have hS1 := hS.later hb1
    replace hb1 : Below w.heap.size w w1 := ((Below.refl _ _).alloc (by simp) _).trans (hb1.mono (by simp))
    obtain ⟨a0, a1, a2, a3, a4, a5, b0, b1, b2, b3, b4, b5⟩ := hS1.sp
    clear hS b0 b1 b2 b3 b4 b5
    go_wp2_with fail
    refine (spmay_any c t x m k e _).mono ?_
    rintro r w2 ⟨rfl, hb2⟩
    rw [H1.out]
    have hS2 := hS1.later hb2
    replace hb2 := hb1.trans (hb2.mono hb1.size)
    clear hS1 hb1 a0 a1 a2 a3 a4 a5
    obtain ⟨a0, a1, a2, a3, a4, a5, b0, b1, b2, b3, b4, b5⟩ := hS2.sp
    clear b0 b1 b2 b3 b4 b5
    go_wp2_with fail
    go_ret
    exact ⟨by first | rfl | exact ret_b (by simp) | exact ret_b (decide_eq_true (by omega)), hb2⟩

set_option maxHeartbeats 1000000 in
set_option maxRecDepth 100000 in
theorem punits_in (w : World) (h : maySp ⟨c, t, x, m, k, e⟩ = true) (u0 : 1 ≤ u) (u1 : u ≤ 1048576) :
    Calls Try.prog 4 #[.agg #[.int .i64 c, .int .i64 t, .int .i64 x, .int .i64 m, .int .i64 k, .int .i64 e], .int .i64 u] w fun r w' => r = .returned (.bool true) ∧ Below w.heap.size w w' := by
  have hS : Six (w.alloc (.cells #[.int .i64 c, .int .i64 t, .int .i64 x, .int .i64 m, .int .i64 k, .int .i64 e] 23)) w.heap.size (Sp.at ⟨c, t, x, m, k, e⟩) := Six.new w ⟨c, t, x, m, k, e⟩
  have HF := units_facts (s := ⟨c, t, x, m, k, e⟩) h u0 u1
  have H1 : Hid (maySp ⟨c, t, x, m, k, e⟩ = true) := h
  obtain ⟨c0, c1, f2, f3, f4, _⟩ := may_facts h
  simp only at c0 c1 f2 f3 f4
  clear h
  obtain ⟨q, hq⟩ : ∃ q, ofP ⟨c, t, x, m, k, e⟩ u = q := ⟨_, rfl⟩
  obtain ⟨l, hl⟩ : ∃ l, leastV ⟨c, t, x, m, k, e⟩ = l := ⟨_, rfl⟩
  rw [hq, hl] at HF
  have HP : Hid (ofP ⟨c, t, x, m, k, e⟩ u = q) := hq
  have HL : Hid (leastV ⟨c, t, x, m, k, e⟩ = l) := hl
  clear hq hl
  rcases HF with ⟨hB, rfl, hl⟩ | ⟨hB, hl, p0, p1, hA, hT⟩
  · have HB : Hid (ofB ⟨c, t, x, m, k, e⟩ u = false) := hB
    clear hB
    go_enter Try.func4, Try.ntmps4
    go_wp2_with fail
    refine (awake8_any _).mono ?_
    rintro r w1 ⟨rfl, hb1⟩
    have hS1 := hS.later hb1
    replace hb1 : Below w.heap.size w w1 := ((Below.refl _ _).alloc (by simp) _).trans (hb1.mono (by simp))
    obtain ⟨a0, a1, a2, a3, a4, a5, b0, b1, b2, b3, b4, b5⟩ := hS1.sp
    clear hS b0 b1 b2 b3 b4 b5
    go_wp2_with fail
    refine (spmay_any c t x m k e _).mono ?_
    rintro r w2 ⟨rfl, hb2⟩
    rw [H1.out]
    have hS2 := hS1.later hb2
    replace hb2 := hb1.trans (hb2.mono hb1.size)
    clear hS1 hb1 a0 a1 a2 a3 a4 a5
    obtain ⟨a0, a1, a2, a3, a4, a5, b0, b1, b2, b3, b4, b5⟩ := hS2.sp
    clear b0 b1 b2 b3 b4 b5
    go_wp2_with fail
    refine (perOf_any c t x m k e u _).mono ?_
    rintro r w3 ⟨rfl, hb3⟩
    rw [HP.out, HB.out]
    have hS3 := hS2.later hb3
    replace hb3 := hb2.trans (hb3.mono hb2.size)
    clear hS2 hb2 a0 a1 a2 a3 a4 a5
    obtain ⟨a0, a1, a2, a3, a4, a5, b0, b1, b2, b3, b4, b5⟩ := hS3.sp
    clear b0 b1 b2 b3 b4 b5
    go_wp2_with fail
    refine (least_any c t x m k e _).mono ?_
    rintro r w4 ⟨rfl, hb4⟩
    rw [HL.out]
    have hS4 := hS3.later hb4
    replace hb4 := hb3.trans (hb4.mono hb3.size)
    clear hS3 hb3 a0 a1 a2 a3 a4 a5
    obtain ⟨a0, a1, a2, a3, a4, a5, b0, b1, b2, b3, b4, b5⟩ := hS4.sp
    clear b0 b1 b2 b3 b4 b5
    go_wp2_with fail
    go_ret
    exact ⟨by first | rfl | exact ret_b (by simp) | exact ret_b (decide_eq_true (by omega)), hb4⟩
  · have HB : Hid (ofB ⟨c, t, x, m, k, e⟩ u = true) := hB
    clear hB
    obtain ⟨a, ha⟩ : ∃ a, atV ⟨c, t, x, m, k, e⟩ q = a := ⟨_, rfl⟩
    rw [ha] at hA
    have HA : Hid (atV ⟨c, t, x, m, k, e⟩ q = a) := ha
    clear ha
    simp only at p0 p1
    by_cases hqt : q = t
    · clear hT
      have hqt' : (q == t) = true := by simpa using hqt
      have HQ : Hid (q = t) := hqt
      clear hqt
      go_enter Try.func4, Try.ntmps4
      go_wp2_with fail
      refine (awake8_any _).mono ?_
      rintro r w1 ⟨rfl, hb1⟩
      have hS1 := hS.later hb1
      replace hb1 : Below w.heap.size w w1 := ((Below.refl _ _).alloc (by simp) _).trans (hb1.mono (by simp))
      obtain ⟨a0, a1, a2, a3, a4, a5, b0, b1, b2, b3, b4, b5⟩ := hS1.sp
      clear hS b0 b1 b2 b3 b4 b5
      go_wp2_with fail
      refine (spmay_any c t x m k e _).mono ?_
      rintro r w2 ⟨rfl, hb2⟩
      rw [H1.out]
      have hS2 := hS1.later hb2
      replace hb2 := hb1.trans (hb2.mono hb1.size)
      clear hS1 hb1 a0 a1 a2 a3 a4 a5
      obtain ⟨a0, a1, a2, a3, a4, a5, b0, b1, b2, b3, b4, b5⟩ := hS2.sp
      clear b0 b1 b2 b3 b4 b5
      go_wp2_with fail
      refine (perOf_any c t x m k e u _).mono ?_
      rintro r w3 ⟨rfl, hb3⟩
      rw [HP.out, HB.out]
      have hS3 := hS2.later hb3
      replace hb3 := hb2.trans (hb3.mono hb2.size)
      clear hS2 hb2 a0 a1 a2 a3 a4 a5
      obtain ⟨a0, a1, a2, a3, a4, a5, b0, b1, b2, b3, b4, b5⟩ := hS3.sp
      clear b0 b1 b2 b3 b4 b5
      go_wp2_with fail
      refine (least_any c t x m k e _).mono ?_
      rintro r w4 ⟨rfl, hb4⟩
      rw [HL.out]
      have hS4 := hS3.later hb4
      replace hb4 := hb3.trans (hb4.mono hb3.size)
      clear hS3 hb3 a0 a1 a2 a3 a4 a5
      obtain ⟨a0, a1, a2, a3, a4, a5, b0, b1, b2, b3, b4, b5⟩ := hS4.sp
      clear b0 b1 b2 b3 b4 b5
      go_wp2_with fail
      refine (at_any c t x m k e q _).mono ?_
      rintro r w5 ⟨rfl, hb5⟩
      rw [HA.out]
      have hS5 := hS4.later hb5
      replace hb5 := hb4.trans (hb5.mono hb4.size)
      clear hS4 hb4 a0 a1 a2 a3 a4 a5
      obtain ⟨a0, a1, a2, a3, a4, a5, b0, b1, b2, b3, b4, b5⟩ := hS5.sp
      clear b0 b1 b2 b3 b4 b5
      go_wp2_with fail
      go_ret
      exact ⟨by first | rfl | exact ret_b (by simp) | exact ret_b (decide_eq_true (by omega)), hb5⟩
    · have hqt' : (q == t) = false := by simpa using hqt
      replace hT := hT.resolve_left hqt
      clear hqt
      obtain ⟨d, hd⟩ : ∃ d, atV ⟨c, t, x, m, k, e⟩ (q - 1) = d := ⟨_, rfl⟩
      rw [hd] at hT
      have HD : Hid (atV ⟨c, t, x, m, k, e⟩ (q - 1) = d) := hd
      clear hd
      go_enter Try.func4, Try.ntmps4
      go_wp2_with fail
      refine (awake8_any _).mono ?_
      rintro r w1 ⟨rfl, hb1⟩
      have hS1 := hS.later hb1
      replace hb1 : Below w.heap.size w w1 := ((Below.refl _ _).alloc (by simp) _).trans (hb1.mono (by simp))
      obtain ⟨a0, a1, a2, a3, a4, a5, b0, b1, b2, b3, b4, b5⟩ := hS1.sp
      clear hS b0 b1 b2 b3 b4 b5
      go_wp2_with fail
      refine (spmay_any c t x m k e _).mono ?_
      rintro r w2 ⟨rfl, hb2⟩
      rw [H1.out]
      have hS2 := hS1.later hb2
      replace hb2 := hb1.trans (hb2.mono hb1.size)
      clear hS1 hb1 a0 a1 a2 a3 a4 a5
      obtain ⟨a0, a1, a2, a3, a4, a5, b0, b1, b2, b3, b4, b5⟩ := hS2.sp
      clear b0 b1 b2 b3 b4 b5
      go_wp2_with fail
      refine (perOf_any c t x m k e u _).mono ?_
      rintro r w3 ⟨rfl, hb3⟩
      rw [HP.out, HB.out]
      have hS3 := hS2.later hb3
      replace hb3 := hb2.trans (hb3.mono hb2.size)
      clear hS2 hb2 a0 a1 a2 a3 a4 a5
      obtain ⟨a0, a1, a2, a3, a4, a5, b0, b1, b2, b3, b4, b5⟩ := hS3.sp
      clear b0 b1 b2 b3 b4 b5
      go_wp2_with fail
      refine (least_any c t x m k e _).mono ?_
      rintro r w4 ⟨rfl, hb4⟩
      rw [HL.out]
      have hS4 := hS3.later hb4
      replace hb4 := hb3.trans (hb4.mono hb3.size)
      clear hS3 hb3 a0 a1 a2 a3 a4 a5
      obtain ⟨a0, a1, a2, a3, a4, a5, b0, b1, b2, b3, b4, b5⟩ := hS4.sp
      clear b0 b1 b2 b3 b4 b5
      go_wp2_with fail
      refine (at_any c t x m k e q _).mono ?_
      rintro r w5 ⟨rfl, hb5⟩
      rw [HA.out]
      have hS5 := hS4.later hb5
      replace hb5 := hb4.trans (hb5.mono hb4.size)
      clear hS4 hb4 a0 a1 a2 a3 a4 a5
      obtain ⟨a0, a1, a2, a3, a4, a5, b0, b1, b2, b3, b4, b5⟩ := hS5.sp
      clear b0 b1 b2 b3 b4 b5
      go_wp2_with fail
      refine (at_any c t x m k e (q - 1) _).mono ?_
      rintro r w6 ⟨rfl, hb6⟩
      rw [HD.out]
      have hS6 := hS5.later hb6
      replace hb6 := hb5.trans (hb6.mono hb5.size)
      clear hS5 hb5 a0 a1 a2 a3 a4 a5
      obtain ⟨a0, a1, a2, a3, a4, a5, b0, b1, b2, b3, b4, b5⟩ := hS6.sp
      clear b0 b1 b2 b3 b4 b5
      go_wp2_with fail
      go_ret
      exact ⟨by first | rfl | exact ret_b (by simp) | exact ret_b (decide_eq_true (by omega)), hb6⟩

theorem law_punits (w : World) : Calls Try.prog 4 #[.agg #[.int .i64 c, .int .i64 t, .int .i64 x, .int .i64 m, .int .i64 k, .int .i64 e], .int .i64 u] w fun r w' => r = .returned (.bool true) ∧ Below w.heap.size w w' := by
  cases h : maySp ⟨c, t, x, m, k, e⟩ with
  | false => exact punits_no c t x m k e u w h
  | true =>
    by_cases hu : 1 ≤ u ∧ u ≤ 1048576
    · exact punits_in c t x m k e u w h hu.1 hu.2
    · exact punits_out c t x m k e u w h hu
end
end Go.Proofs.Ytociniaaeflokaa
