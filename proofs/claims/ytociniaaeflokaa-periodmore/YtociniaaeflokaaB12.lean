/- What the statement PeriodMore comes to. -/
import Derived.Test.YtociniaaeflokaaB10
namespace Go.Proofs.Ytociniaaeflokaa
open Go.RowKit Go.Shelf
section
variable (c t x m k e u v p : Int)

set_option maxHeartbeats 2000000 in
set_option maxRecDepth 100000 in
theorem pmore_no (w : World) (h : maySp ⟨c, t, x, m, k, e⟩ = false) :
    Calls Try.prog 5 #[.agg #[.int .i64 c, .int .i64 t, .int .i64 x, .int .i64 m, .int .i64 k, .int .i64 e], .int .i64 u, .int .i64 v, .int .i64 p] w fun r w' => r = .returned (.bool true) ∧ Below w.heap.size w w' := by
  have hS : Six (w.alloc (.cells #[.int .i64 c, .int .i64 t, .int .i64 x, .int .i64 m, .int .i64 k, .int .i64 e] 23)) w.heap.size (Sp.at ⟨c, t, x, m, k, e⟩) := Six.new w ⟨c, t, x, m, k, e⟩
  have H1 : Hid (maySp ⟨c, t, x, m, k, e⟩ = false) := h
  clear h
  go_enter Try.func5, Try.ntmps5
  go_wp2_with fail
  refine (awake8_any _).mono ?_
  rintro r w1 ⟨rfl, hb1⟩
  have hS1 := hS.later hb1
  replace hb1 : Below w.heap.size w w1 := ((Below.refl _ _).alloc (by simp) _).trans (hb1.mono (by simp))
  obtain ⟨a0, a1, a2, a3, a4, a5, b0, b1, b2, b3, b4, b5⟩ := hS1.sp
  clear hS b0 b1 b2 b3 b4 b5
  go_wp2_with fail
  refine (spmay_any c t x m k e _).mono ?_
  rintro r w2 ⟨rfl, hb2⟩
  rw [H1.out]
  have hS2 := hS1.later hb2
  replace hb2 := hb1.trans (hb2.mono hb1.size)
  clear hS1 hb1 a0 a1 a2 a3 a4 a5
  obtain ⟨a0, a1, a2, a3, a4, a5, b0, b1, b2, b3, b4, b5⟩ := hS2.sp
  clear b0 b1 b2 b3 b4 b5
  go_wp2_with fail
  go_ret
  exact ⟨by first | rfl | exact ret_b (by simp) | exact ret_b (decide_eq_true (by omega)), hb2⟩

set_option maxHeartbeats 2000000 in
set_option maxRecDepth 100000 in
theorem pmore_out (w : World) (h : maySp ⟨c, t, x, m, k, e⟩ = true) (hu : ¬ (1 ≤ u ∧ u ≤ v ∧ v ≤ 1048576)) :
    Calls Try.prog 5 #[.agg #[.int .i64 c, .int .i64 t, .int .i64 x, .int .i64 m, .int .i64 k, .int .i64 e], .int .i64 u, .int .i64 v, .int .i64 p] w fun r w' => r = .returned (.bool true) ∧ Below w.heap.size w w' := by
  have hS : Six (w.alloc (.cells #[.int .i64 c, .int .i64 t, .int .i64 x, .int .i64 m, .int .i64 k, .int .i64 e] 23)) w.heap.size (Sp.at ⟨c, t, x, m, k, e⟩) := Six.new w ⟨c, t, x, m, k, e⟩
  have H1 : Hid (maySp ⟨c, t, x, m, k, e⟩ = true) := h
  clear h
  by_cases g0 : u < 1
  · clear hu
    go_enter Try.func5, Try.ntmps5
    go_wp2_with fail
    refine (awake8_any _).mono ?_
    rintro r w1 ⟨rfl, hb1⟩
    have hS1 := hS.later hb1
    replace hb1 : Below w.heap.size w w1 := ((Below.refl _ _).alloc (by simp) _).trans (hb1.mono (by simp))
    obtain ⟨a0, a1, a2, a3, a4, a5, b0, b1, b2, b3, b4, b5⟩ := hS1.sp
    clear hS b0 b1 b2 b3 b4 b5
    go_wp2_with fail
    refine (spmay_any c t x m k e _).mono ?_
    rintro r w2 ⟨rfl, hb2⟩
    rw [H1.out]
    have hS2 := hS1.later hb2
    replace hb2 := hb1.trans (hb2.mono hb1.size)
    clear hS1 hb1 a0 a1 a2 a3 a4 a5
    obtain ⟨a0, a1, a2, a3, a4, a5, b0, b1, b2, b3, b4, b5⟩ := hS2.sp
    clear b0 b1 b2 b3 b4 b5
    go_wp2_with fail
    go_ret
    exact ⟨by first | rfl | exact ret_b (by simp) | exact ret_b (decide_eq_true (by omega)), hb2⟩
  · have g0' := Int.not_lt.1 g0
    by_cases g1 : v < u
    · clear hu
      go_enter Try.func5, Try.ntmps5
      go_wp2_with fail
      refine (awake8_any _).mono ?_
      rintro r w1 ⟨rfl, hb1⟩
      have hS1 := hS.later hb1
      replace hb1 : Below w.heap.size w w1 := ((Below.refl _ _).alloc (by simp) _).trans (hb1.mono (by simp))
      obtain ⟨a0, a1, a2, a3, a4, a5, b0, b1, b2, b3, b4, b5⟩ := hS1.sp
      clear hS b0 b1 b2 b3 b4 b5
      go_wp2_with fail
      refine (spmay_any c t x m k e _).mono ?_
      rintro r w2 ⟨rfl, hb2⟩
      rw [H1.out]
      have hS2 := hS1.later hb2
      replace hb2 := hb1.trans (hb2.mono hb1.size)
      clear hS1 hb1 a0 a1 a2 a3 a4 a5
      obtain ⟨a0, a1, a2, a3, a4, a5, b0, b1, b2, b3, b4, b5⟩ := hS2.sp
      clear b0 b1 b2 b3 b4 b5
      go_wp2_with fail
      go_ret
      exact ⟨by first | rfl | exact ret_b (by simp) | exact ret_b (decide_eq_true (by omega)), hb2⟩
    · have g1' := Int.not_lt.1 g1
      have g2 : 1048576 < v := by omega
      clear hu
      go_enter Try.func5, Try.ntmps5
      go_wp2_with fail
      refine (awake8_any _).mono ?_
      rintro r w1 ⟨rfl, hb1⟩
      have hS1 := hS.later hb1
      replace hb1 : Below w.heap.size w w1 := ((Below.refl _ _).alloc (by simp) _).trans (hb1.mono (by simp))
      obtain ⟨a0, a1, a2, a3, a4, a5, b0, b1, b2, b3, b4, b5⟩ := hS1.sp
      clear hS b0 b1 b2 b3 b4 b5
      go_wp2_with fail
      refine (spmay_any c t x m k e _).mono ?_
      rintro r w2 ⟨rfl, hb2⟩
      rw [H1.out]
      have hS2 := hS1.later hb2
      replace hb2 := hb1.trans (hb2.mono hb1.size)
      clear hS1 hb1 a0 a1 a2 a3 a4 a5
      obtain ⟨a0, a1, a2, a3, a4, a5, b0, b1, b2, b3, b4, b5⟩ := hS2.sp
      clear b0 b1 b2 b3 b4 b5
      go_wp2_with fail
      go_ret
      exact ⟨by first | rfl | exact ret_b (by simp) | exact ret_b (decide_eq_true (by omega)), hb2⟩

set_option maxHeartbeats 2000000 in
set_option maxRecDepth 100000 in
theorem pmore_far (w : World) (h : maySp ⟨c, t, x, m, k, e⟩ = true) (u0 : 1 ≤ u) (uv : u ≤ v) (v1 : v ≤ 1048576) (hp : ¬ (t ≤ p ∧ p ≤ x)) :
    Calls Try.prog 5 #[.agg #[.int .i64 c, .int .i64 t, .int .i64 x, .int .i64 m, .int .i64 k, .int .i64 e], .int .i64 u, .int .i64 v, .int .i64 p] w fun r w' => r = .returned (.bool true) ∧ Below w.heap.size w w' := by
  have hS : Six (w.alloc (.cells #[.int .i64 c, .int .i64 t, .int .i64 x, .int .i64 m, .int .i64 k, .int .i64 e] 23)) w.heap.size (Sp.at ⟨c, t, x, m, k, e⟩) := Six.new w ⟨c, t, x, m, k, e⟩
  have HF := more_facts (s := ⟨c, t, x, m, k, e⟩) h u0 uv v1
  have H1 : Hid (maySp ⟨c, t, x, m, k, e⟩ = true) := h
  obtain ⟨a, ha⟩ : ∃ a, ofP ⟨c, t, x, m, k, e⟩ u = a := ⟨_, rfl⟩
  obtain ⟨d, hd⟩ : ∃ d, ofP ⟨c, t, x, m, k, e⟩ v = d := ⟨_, rfl⟩
  obtain ⟨is, his⟩ : ∃ is, ofB ⟨c, t, x, m, k, e⟩ u = is := ⟨_, rfl⟩
  obtain ⟨has, hhas⟩ : ∃ has, ofB ⟨c, t, x, m, k, e⟩ v = has := ⟨_, rfl⟩
  rw [ha, hd, his, hhas] at HF
  have HU : Hid (ofP ⟨c, t, x, m, k, e⟩ u = a ∧ ofB ⟨c, t, x, m, k, e⟩ u = is) := ⟨ha, his⟩
  have HV : Hid (ofP ⟨c, t, x, m, k, e⟩ v = d ∧ ofB ⟨c, t, x, m, k, e⟩ v = has) := ⟨hd, hhas⟩
  have v0 : 1 ≤ v := by omega
  clear h ha hd his hhas
  by_cases pt : p < t
  · clear hp
    cases is with
    | false =>
      clear HF
      go_enter Try.func5, Try.ntmps5
      go_wp2_with fail
      refine (awake8_any _).mono ?_
      rintro r w1 ⟨rfl, hb1⟩
      have hS1 := hS.later hb1
      replace hb1 : Below w.heap.size w w1 := ((Below.refl _ _).alloc (by simp) _).trans (hb1.mono (by simp))
      obtain ⟨a0, a1, a2, a3, a4, a5, b0, b1, b2, b3, b4, b5⟩ := hS1.sp
      clear hS b0 b1 b2 b3 b4 b5
      go_wp2_with fail
      refine (spmay_any c t x m k e _).mono ?_
      rintro r w2 ⟨rfl, hb2⟩
      rw [H1.out]
      have hS2 := hS1.later hb2
      replace hb2 := hb1.trans (hb2.mono hb1.size)
      clear hS1 hb1 a0 a1 a2 a3 a4 a5
      obtain ⟨a0, a1, a2, a3, a4, a5, b0, b1, b2, b3, b4, b5⟩ := hS2.sp
      clear b0 b1 b2 b3 b4 b5
      go_wp2_with fail
      refine (perOf_any c t x m k e u _).mono ?_
      rintro r w3 ⟨rfl, hb3⟩
      rw [HU.out.1, HU.out.2]
      have hS3 := hS2.later hb3
      replace hb3 := hb2.trans (hb3.mono hb2.size)
      clear hS2 hb2 a0 a1 a2 a3 a4 a5
      obtain ⟨a0, a1, a2, a3, a4, a5, b0, b1, b2, b3, b4, b5⟩ := hS3.sp
      clear b0 b1 b2 b3 b4 b5
      go_wp2_with fail
      refine (perOf_any c t x m k e v _).mono ?_
      rintro r w4 ⟨rfl, hb4⟩
      rw [HV.out.1, HV.out.2]
      have hS4 := hS3.later hb4
      replace hb4 := hb3.trans (hb4.mono hb3.size)
      clear hS3 hb3 a0 a1 a2 a3 a4 a5
      obtain ⟨a0, a1, a2, a3, a4, a5, b0, b1, b2, b3, b4, b5⟩ := hS4.sp
      clear b0 b1 b2 b3 b4 b5
      go_wp2_with fail
      go_ret
      exact ⟨by first | rfl | exact ret_b (by simp), hb4⟩
    | true =>
      obtain ⟨rfl, hda⟩ := HF rfl
      clear HF
      go_enter Try.func5, Try.ntmps5
      go_wp2_with fail
      refine (awake8_any _).mono ?_
      rintro r w1 ⟨rfl, hb1⟩
      have hS1 := hS.later hb1
      replace hb1 : Below w.heap.size w w1 := ((Below.refl _ _).alloc (by simp) _).trans (hb1.mono (by simp))
      obtain ⟨a0, a1, a2, a3, a4, a5, b0, b1, b2, b3, b4, b5⟩ := hS1.sp
      clear hS b0 b1 b2 b3 b4 b5
      go_wp2_with fail
      refine (spmay_any c t x m k e _).mono ?_
      rintro r w2 ⟨rfl, hb2⟩
      rw [H1.out]
      have hS2 := hS1.later hb2
      replace hb2 := hb1.trans (hb2.mono hb1.size)
      clear hS1 hb1 a0 a1 a2 a3 a4 a5
      obtain ⟨a0, a1, a2, a3, a4, a5, b0, b1, b2, b3, b4, b5⟩ := hS2.sp
      clear b0 b1 b2 b3 b4 b5
      go_wp2_with fail
      refine (perOf_any c t x m k e u _).mono ?_
      rintro r w3 ⟨rfl, hb3⟩
      rw [HU.out.1, HU.out.2]
      have hS3 := hS2.later hb3
      replace hb3 := hb2.trans (hb3.mono hb2.size)
      clear hS2 hb2 a0 a1 a2 a3 a4 a5
      obtain ⟨a0, a1, a2, a3, a4, a5, b0, b1, b2, b3, b4, b5⟩ := hS3.sp
      clear b0 b1 b2 b3 b4 b5
      go_wp2_with fail
      refine (perOf_any c t x m k e v _).mono ?_
      rintro r w4 ⟨rfl, hb4⟩
      rw [HV.out.1, HV.out.2]
      have hS4 := hS3.later hb4
      replace hb4 := hb3.trans (hb4.mono hb3.size)
      clear hS3 hb3 a0 a1 a2 a3 a4 a5
      obtain ⟨a0, a1, a2, a3, a4, a5, b0, b1, b2, b3, b4, b5⟩ := hS4.sp
      clear b0 b1 b2 b3 b4 b5
      go_wp2_with fail
      go_ret
      exact ⟨by first | rfl | exact ret_b (by simp), hb4⟩
  · have px : x < p := by omega
    clear hp
    cases is with
    | false =>
      clear HF
      go_enter Try.func5, Try.ntmps5
      go_wp2_with fail
      refine (awake8_any _).mono ?_
      rintro r w1 ⟨rfl, hb1⟩
      have hS1 := hS.later hb1
      replace hb1 : Below w.heap.size w w1 := ((Below.refl _ _).alloc (by simp) _).trans (hb1.mono (by simp))
      obtain ⟨a0, a1, a2, a3, a4, a5, b0, b1, b2, b3, b4, b5⟩ := hS1.sp
      clear hS b0 b1 b2 b3 b4 b5
      go_wp2_with fail
      refine (spmay_any c t x m k e _).mono ?_
      rintro r w2 ⟨rfl, hb2⟩
      rw [H1.out]
      have hS2 := hS1.later hb2
      replace hb2 := hb1.trans (hb2.mono hb1.size)
      clear hS1 hb1 a0 a1 a2 a3 a4 a5
      obtain ⟨a0, a1, a2, a3, a4, a5, b0, b1, b2, b3, b4, b5⟩ := hS2.sp
      clear b0 b1 b2 b3 b4 b5
      go_wp2_with fail
      refine (perOf_any c t x m k e u _).mono ?_
      rintro r w3 ⟨rfl, hb3⟩
      rw [HU.out.1, HU.out.2]
      have hS3 := hS2.later hb3
      replace hb3 := hb2.trans (hb3.mono hb2.size)
      clear hS2 hb2 a0 a1 a2 a3 a4 a5
      obtain ⟨a0, a1, a2, a3, a4, a5, b0, b1, b2, b3, b4, b5⟩ := hS3.sp
      clear b0 b1 b2 b3 b4 b5
      go_wp2_with fail
      refine (perOf_any c t x m k e v _).mono ?_
      rintro r w4 ⟨rfl, hb4⟩
      rw [HV.out.1, HV.out.2]
      have hS4 := hS3.later hb4
      replace hb4 := hb3.trans (hb4.mono hb3.size)
      clear hS3 hb3 a0 a1 a2 a3 a4 a5
      obtain ⟨a0, a1, a2, a3, a4, a5, b0, b1, b2, b3, b4, b5⟩ := hS4.sp
      clear b0 b1 b2 b3 b4 b5
      go_wp2_with fail
      go_ret
      exact ⟨by first | rfl | exact ret_b (by simp), hb4⟩
    | true =>
      obtain ⟨rfl, hda⟩ := HF rfl
      clear HF
      go_enter Try.func5, Try.ntmps5
      go_wp2_with fail
      refine (awake8_any _).mono ?_
      rintro r w1 ⟨rfl, hb1⟩
      have hS1 := hS.later hb1
      replace hb1 : Below w.heap.size w w1 := ((Below.refl _ _).alloc (by simp) _).trans (hb1.mono (by simp))
      obtain ⟨a0, a1, a2, a3, a4, a5, b0, b1, b2, b3, b4, b5⟩ := hS1.sp
      clear hS b0 b1 b2 b3 b4 b5
      go_wp2_with fail
      refine (spmay_any c t x m k e _).mono ?_
      rintro r w2 ⟨rfl, hb2⟩
      rw [H1.out]
      have hS2 := hS1.later hb2
      replace hb2 := hb1.trans (hb2.mono hb1.size)
      clear hS1 hb1 a0 a1 a2 a3 a4 a5
      obtain ⟨a0, a1, a2, a3, a4, a5, b0, b1, b2, b3, b4, b5⟩ := hS2.sp
      clear b0 b1 b2 b3 b4 b5
      go_wp2_with fail
      refine (perOf_any c t x m k e u _).mono ?_
      rintro r w3 ⟨rfl, hb3⟩
      rw [HU.out.1, HU.out.2]
      have hS3 := hS2.later hb3
      replace hb3 := hb2.trans (hb3.mono hb2.size)
      clear hS2 hb2 a0 a1 a2 a3 a4 a5
      obtain ⟨a0, a1, a2, a3, a4, a5, b0, b1, b2, b3, b4, b5⟩ := hS3.sp
      clear b0 b1 b2 b3 b4 b5
      go_wp2_with fail
      refine (perOf_any c t x m k e v _).mono ?_
      rintro r w4 ⟨rfl, hb4⟩
      rw [HV.out.1, HV.out.2]
      have hS4 := hS3.later hb4
      replace hb4 := hb3.trans (hb4.mono hb3.size)
      clear hS3 hb3 a0 a1 a2 a3 a4 a5
      obtain ⟨a0, a1, a2, a3, a4, a5, b0, b1, b2, b3, b4, b5⟩ := hS4.sp
      clear b0 b1 b2 b3 b4 b5
      go_wp2_with fail
      go_ret
      exact ⟨by first | rfl | exact ret_b (by simp), hb4⟩

set_option maxHeartbeats 2000000 in
set_option maxRecDepth 100000 in
theorem pmore_in (w : World) (h : maySp ⟨c, t, x, m, k, e⟩ = true) (u0 : 1 ≤ u) (uv : u ≤ v) (v1 : v ≤ 1048576) (p0 : t ≤ p) (p1 : p ≤ x) :
    Calls Try.prog 5 #[.agg #[.int .i64 c, .int .i64 t, .int .i64 x, .int .i64 m, .int .i64 k, .int .i64 e], .int .i64 u, .int .i64 v, .int .i64 p] w fun r w' => r = .returned (.bool true) ∧ Below w.heap.size w w' := by
  have hS : Six (w.alloc (.cells #[.int .i64 c, .int .i64 t, .int .i64 x, .int .i64 m, .int .i64 k, .int .i64 e] 23)) w.heap.size (Sp.at ⟨c, t, x, m, k, e⟩) := Six.new w ⟨c, t, x, m, k, e⟩
  have HF := more_facts (s := ⟨c, t, x, m, k, e⟩) h u0 uv v1
  have H1 : Hid (maySp ⟨c, t, x, m, k, e⟩ = true) := h
  obtain ⟨a, ha⟩ : ∃ a, ofP ⟨c, t, x, m, k, e⟩ u = a := ⟨_, rfl⟩
  obtain ⟨d, hd⟩ : ∃ d, ofP ⟨c, t, x, m, k, e⟩ v = d := ⟨_, rfl⟩
  obtain ⟨is, his⟩ : ∃ is, ofB ⟨c, t, x, m, k, e⟩ u = is := ⟨_, rfl⟩
  obtain ⟨has, hhas⟩ : ∃ has, ofB ⟨c, t, x, m, k, e⟩ v = has := ⟨_, rfl⟩
  rw [ha, hd, his, hhas] at HF
  have HU : Hid (ofP ⟨c, t, x, m, k, e⟩ u = a ∧ ofB ⟨c, t, x, m, k, e⟩ u = is) := ⟨ha, his⟩
  have HV : Hid (ofP ⟨c, t, x, m, k, e⟩ v = d ∧ ofB ⟨c, t, x, m, k, e⟩ v = has) := ⟨hd, hhas⟩
  have v0 : 1 ≤ v := by omega
  obtain ⟨o1, o2, o3⟩ := own_facts (s := ⟨c, t, x, m, k, e⟩) h p0 p1
  obtain ⟨n, hn⟩ : ∃ n, atV ⟨c, t, x, m, k, e⟩ p = n := ⟨_, rfl⟩
  rw [hn] at o1 o2 o3
  obtain ⟨q, hq⟩ : ∃ q, ofP ⟨c, t, x, m, k, e⟩ n = q := ⟨_, rfl⟩
  rw [hq] at o2 o3
  have HN : Hid (atV ⟨c, t, x, m, k, e⟩ p = n) := hn
  have HQ : Hid (ofP ⟨c, t, x, m, k, e⟩ n = q ∧ ofB ⟨c, t, x, m, k, e⟩ n = true) := ⟨hq, o1⟩
  have HE : Hid (atV ⟨c, t, x, m, k, e⟩ q = n) := o3
  clear h ha hd his hhas hn hq o1 o3
  cases is with
  | false =>
    clear HF
    go_enter Try.func5, Try.ntmps5
    go_wp2_with fail
    refine (awake8_any _).mono ?_
    rintro r w1 ⟨rfl, hb1⟩
    have hS1 := hS.later hb1
    replace hb1 : Below w.heap.size w w1 := ((Below.refl _ _).alloc (by simp) _).trans (hb1.mono (by simp))
    obtain ⟨a0, a1, a2, a3, a4, a5, b0, b1, b2, b3, b4, b5⟩ := hS1.sp
    clear hS b0 b1 b2 b3 b4 b5
    go_wp2_with fail
    refine (spmay_any c t x m k e _).mono ?_
    rintro r w2 ⟨rfl, hb2⟩
    rw [H1.out]
    have hS2 := hS1.later hb2
    replace hb2 := hb1.trans (hb2.mono hb1.size)
    clear hS1 hb1 a0 a1 a2 a3 a4 a5
    obtain ⟨a0, a1, a2, a3, a4, a5, b0, b1, b2, b3, b4, b5⟩ := hS2.sp
    clear b0 b1 b2 b3 b4 b5
    go_wp2_with fail
    refine (perOf_any c t x m k e u _).mono ?_
    rintro r w3 ⟨rfl, hb3⟩
    rw [HU.out.1, HU.out.2]
    have hS3 := hS2.later hb3
    replace hb3 := hb2.trans (hb3.mono hb2.size)
    clear hS2 hb2 a0 a1 a2 a3 a4 a5
    obtain ⟨a0, a1, a2, a3, a4, a5, b0, b1, b2, b3, b4, b5⟩ := hS3.sp
    clear b0 b1 b2 b3 b4 b5
    go_wp2_with fail
    refine (perOf_any c t x m k e v _).mono ?_
    rintro r w4 ⟨rfl, hb4⟩
    rw [HV.out.1, HV.out.2]
    have hS4 := hS3.later hb4
    replace hb4 := hb3.trans (hb4.mono hb3.size)
    clear hS3 hb3 a0 a1 a2 a3 a4 a5
    obtain ⟨a0, a1, a2, a3, a4, a5, b0, b1, b2, b3, b4, b5⟩ := hS4.sp
    clear b0 b1 b2 b3 b4 b5
    go_wp2_with fail
    have MK : Hid (∀ w' : World, Below w4.heap.size w4 w' → (w'.cell? ⟨w.heap.size, 0, none⟩ = some (.int .i64 c) ∧ w'.cell? ⟨w.heap.size, 1, none⟩ = some (.int .i64 t) ∧ w'.cell? ⟨w.heap.size, 2, none⟩ = some (.int .i64 x) ∧ w'.cell? ⟨w.heap.size, 3, none⟩ = some (.int .i64 m) ∧ w'.cell? ⟨w.heap.size, 4, none⟩ = some (.int .i64 k) ∧ w'.cell? ⟨w.heap.size, 5, none⟩ = some (.int .i64 e)) ∧ Below w4.heap.size w4 w') := by
      intro w' hb
      obtain ⟨x0, x1, x2, x3, x4, x5, _⟩ := (hS4.later hb).sp
      exact ⟨⟨x0, x1, x2, x3, x4, x5⟩, hb⟩
    clear hS4
    go_region_held3 (fun w' => (w'.cell? ⟨w.heap.size, 0, none⟩ = some (.int .i64 c) ∧ w'.cell? ⟨w.heap.size, 1, none⟩ = some (.int .i64 t) ∧ w'.cell? ⟨w.heap.size, 2, none⟩ = some (.int .i64 x) ∧ w'.cell? ⟨w.heap.size, 3, none⟩ = some (.int .i64 m) ∧ w'.cell? ⟨w.heap.size, 4, none⟩ = some (.int .i64 k) ∧ w'.cell? ⟨w.heap.size, 5, none⟩ = some (.int .i64 e)) ∧ Below w4.heap.size w4 w')
      (first | exact MK.out _ (bstep (by assumption) (sBel (by assumption))) | exact MK.out _ (Below.refl _ _).drew)
      (first
      | (go_at_call 18; refine (at_any c t x m k e p _).mono ?_; rintro r w5 ⟨rfl, hb5⟩; rw [HN.out])
      | (go_at_call 9; refine (perOf_any c t x m k e n _).mono ?_; rintro r w6 ⟨rfl, hb6⟩; rw [HQ.out.1, HQ.out.2]))
    go_wp2_with fail
    go_region_held3 (fun w' => (w'.cell? ⟨w.heap.size, 0, none⟩ = some (.int .i64 c) ∧ w'.cell? ⟨w.heap.size, 1, none⟩ = some (.int .i64 t) ∧ w'.cell? ⟨w.heap.size, 2, none⟩ = some (.int .i64 x) ∧ w'.cell? ⟨w.heap.size, 3, none⟩ = some (.int .i64 m) ∧ w'.cell? ⟨w.heap.size, 4, none⟩ = some (.int .i64 k) ∧ w'.cell? ⟨w.heap.size, 5, none⟩ = some (.int .i64 e)) ∧ Below w4.heap.size w4 w')
      (first | exact MK.out _ (bstep (by assumption) (sBel (by assumption))) | exact MK.out _ (sBel (by assumption)).drew)
      (first
      | (go_at_call 18; refine (at_any c t x m k e _ _).mono ?_; rintro r w7 ⟨rfl, hb7⟩; first | rw [HN.out] | rw [HE.out]))
    all_goals
      go_wp2
      go_ret
      exact ⟨by first | rfl | exact ret_b (by simp), hb4.trans ((sBel (by assumption)).mono hb4.size)⟩
  | true =>
    obtain ⟨rfl, hda⟩ := HF rfl
    clear HF
    go_enter Try.func5, Try.ntmps5
    go_wp2_with fail
    refine (awake8_any _).mono ?_
    rintro r w1 ⟨rfl, hb1⟩
    have hS1 := hS.later hb1
    replace hb1 : Below w.heap.size w w1 := ((Below.refl _ _).alloc (by simp) _).trans (hb1.mono (by simp))
    obtain ⟨a0, a1, a2, a3, a4, a5, b0, b1, b2, b3, b4, b5⟩ := hS1.sp
    clear hS b0 b1 b2 b3 b4 b5
    go_wp2_with fail
    refine (spmay_any c t x m k e _).mono ?_
    rintro r w2 ⟨rfl, hb2⟩
    rw [H1.out]
    have hS2 := hS1.later hb2
    replace hb2 := hb1.trans (hb2.mono hb1.size)
    clear hS1 hb1 a0 a1 a2 a3 a4 a5
    obtain ⟨a0, a1, a2, a3, a4, a5, b0, b1, b2, b3, b4, b5⟩ := hS2.sp
    clear b0 b1 b2 b3 b4 b5
    go_wp2_with fail
    refine (perOf_any c t x m k e u _).mono ?_
    rintro r w3 ⟨rfl, hb3⟩
    rw [HU.out.1, HU.out.2]
    have hS3 := hS2.later hb3
    replace hb3 := hb2.trans (hb3.mono hb2.size)
    clear hS2 hb2 a0 a1 a2 a3 a4 a5
    obtain ⟨a0, a1, a2, a3, a4, a5, b0, b1, b2, b3, b4, b5⟩ := hS3.sp
    clear b0 b1 b2 b3 b4 b5
    go_wp2_with fail
    refine (perOf_any c t x m k e v _).mono ?_
    rintro r w4 ⟨rfl, hb4⟩
    rw [HV.out.1, HV.out.2]
    have hS4 := hS3.later hb4
    replace hb4 := hb3.trans (hb4.mono hb3.size)
    clear hS3 hb3 a0 a1 a2 a3 a4 a5
    obtain ⟨a0, a1, a2, a3, a4, a5, b0, b1, b2, b3, b4, b5⟩ := hS4.sp
    clear b0 b1 b2 b3 b4 b5
    go_wp2_with fail
    have MK : Hid (∀ w' : World, Below w4.heap.size w4 w' → (w'.cell? ⟨w.heap.size, 0, none⟩ = some (.int .i64 c) ∧ w'.cell? ⟨w.heap.size, 1, none⟩ = some (.int .i64 t) ∧ w'.cell? ⟨w.heap.size, 2, none⟩ = some (.int .i64 x) ∧ w'.cell? ⟨w.heap.size, 3, none⟩ = some (.int .i64 m) ∧ w'.cell? ⟨w.heap.size, 4, none⟩ = some (.int .i64 k) ∧ w'.cell? ⟨w.heap.size, 5, none⟩ = some (.int .i64 e)) ∧ Below w4.heap.size w4 w') := by
      intro w' hb
      obtain ⟨x0, x1, x2, x3, x4, x5, _⟩ := (hS4.later hb).sp
      exact ⟨⟨x0, x1, x2, x3, x4, x5⟩, hb⟩
    clear hS4
    go_region_held3 (fun w' => (w'.cell? ⟨w.heap.size, 0, none⟩ = some (.int .i64 c) ∧ w'.cell? ⟨w.heap.size, 1, none⟩ = some (.int .i64 t) ∧ w'.cell? ⟨w.heap.size, 2, none⟩ = some (.int .i64 x) ∧ w'.cell? ⟨w.heap.size, 3, none⟩ = some (.int .i64 m) ∧ w'.cell? ⟨w.heap.size, 4, none⟩ = some (.int .i64 k) ∧ w'.cell? ⟨w.heap.size, 5, none⟩ = some (.int .i64 e)) ∧ Below w4.heap.size w4 w')
      (first | exact MK.out _ (bstep (by assumption) (sBel (by assumption))) | exact MK.out _ (Below.refl _ _).drew)
      (first
      | (go_at_call 18; refine (at_any c t x m k e p _).mono ?_; rintro r w5 ⟨rfl, hb5⟩; rw [HN.out])
      | (go_at_call 9; refine (perOf_any c t x m k e n _).mono ?_; rintro r w6 ⟨rfl, hb6⟩; rw [HQ.out.1, HQ.out.2]))
    go_wp2_with fail
    go_region_held3 (fun w' => (w'.cell? ⟨w.heap.size, 0, none⟩ = some (.int .i64 c) ∧ w'.cell? ⟨w.heap.size, 1, none⟩ = some (.int .i64 t) ∧ w'.cell? ⟨w.heap.size, 2, none⟩ = some (.int .i64 x) ∧ w'.cell? ⟨w.heap.size, 3, none⟩ = some (.int .i64 m) ∧ w'.cell? ⟨w.heap.size, 4, none⟩ = some (.int .i64 k) ∧ w'.cell? ⟨w.heap.size, 5, none⟩ = some (.int .i64 e)) ∧ Below w4.heap.size w4 w')
      (first | exact MK.out _ (bstep (by assumption) (sBel (by assumption))) | exact MK.out _ (sBel (by assumption)).drew)
      (first
      | (go_at_call 18; refine (at_any c t x m k e _ _).mono ?_; rintro r w7 ⟨rfl, hb7⟩; first | rw [HN.out] | rw [HE.out]))
    all_goals
      go_wp2
      go_ret
      exact ⟨by first | rfl | exact ret_b (by simp), hb4.trans ((sBel (by assumption)).mono hb4.size)⟩

theorem law_pmore (w : World) : Calls Try.prog 5 #[.agg #[.int .i64 c, .int .i64 t, .int .i64 x, .int .i64 m, .int .i64 k, .int .i64 e], .int .i64 u, .int .i64 v, .int .i64 p] w fun r w' => r = .returned (.bool true) ∧ Below w.heap.size w w' := by
  cases h : maySp ⟨c, t, x, m, k, e⟩ with
  | false => exact pmore_no c t x m k e u v p w h
  | true =>
    by_cases hu : 1 ≤ u ∧ u ≤ v ∧ v ≤ 1048576
    · by_cases hp : t ≤ p ∧ p ≤ x
      · exact pmore_in c t x m k e u v p w h hu.1 hu.2.1 hu.2.2 hp.1 hp.2
      · exact pmore_far c t x m k e u v p w h hu.1 hu.2.1 hu.2.2 hp
    · exact pmore_out c t x m k e u v p w h hu
end
end Go.Proofs.Ytociniaaeflokaa
