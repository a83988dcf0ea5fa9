/- What the statement SpecStretch comes to. -/
import Derived.Test.YtpnmdpffdeebmaaE13
namespace Go.Proofs.Ytpnmdpffdeebmaa
open Go.RowKit

set_option maxHeartbeats 1000000 in
set_option maxRecDepth 100000 in
theorem stretch_no (c t x m k e t' x' : Int) (w : World) (h : maySp ⟨c, t, x, m, k, e⟩ = false) :
    Calls Try.prog 5 #[.agg #[.int .i64 c, .int .i64 t, .int .i64 x, .int .i64 m, .int .i64 k, .int .i64 e], .int .i64 t', .int .i64 x'] w fun r w' => r = .returned (.bool true) ∧ Below w.heap.size w w' := by
  have hS : Six (w.alloc (.cells #[.int .i64 c, .int .i64 t, .int .i64 x, .int .i64 m, .int .i64 k, .int .i64 e] 23)) w.heap.size (Sp.at ⟨c, t, x, m, k, e⟩) := Six.new w ⟨c, t, x, m, k, e⟩
  have H : Hid (maySp ⟨c, t, x, m, k, e⟩ = false) := h
  clear h
  go_enter Try.func5, Try.ntmps5
  go_wp2_with fail
  refine (awake5_any _).mono ?_
  rintro r w1 ⟨rfl, hb1⟩
  have hS1 := hS.later hb1
  replace hb1 : Below w.heap.size w w1 := ((Below.refl _ _).alloc (by simp) _).trans (hb1.mono (by simp))
  have s1 := hS1.lt
  obtain ⟨a0, a1, a2, a3, a4, a5, b0, b1, b2, b3, b4, b5⟩ := hS1.sp
  clear hS
  go_wp2_with fail
  refine (spmay_any c t x m k e _).mono ?_
  rintro r w2 ⟨rfl, hb2⟩
  have hS2 := hS1.later hb2
  replace hb2 := hb1.trans (hb2.mono hb1.size)
  clear hS1 hb1 s1 a0 a1 a2 a3 a4 a5 b0 b1 b2 b3 b4 b5
  rw [H.out]
  go_wp2_with fail
  go_ret
  exact ⟨rfl, hb2⟩

set_option maxHeartbeats 1000000 in
set_option maxRecDepth 100000 in
theorem stretch_in0 (c t x m k e t' x' : Int) (w : World) (h : maySp ⟨c, t, x, m, k, e⟩ = true) (h2 : maySp ⟨c, t', x', m, k, e⟩ = false) :
    Calls Try.prog 5 #[.agg #[.int .i64 c, .int .i64 t, .int .i64 x, .int .i64 m, .int .i64 k, .int .i64 e], .int .i64 t', .int .i64 x'] w fun r w' => r = .returned (.bool true) ∧ Below w.heap.size w w' := by
  have hS : Six (w.alloc (.cells #[.int .i64 c, .int .i64 t, .int .i64 x, .int .i64 m, .int .i64 k, .int .i64 e] 23)) w.heap.size (Sp.at ⟨c, t, x, m, k, e⟩) := Six.new w ⟨c, t, x, m, k, e⟩
  have H : Hid (maySp ⟨c, t, x, m, k, e⟩ = true) := h
  have HX : Hid (strS ⟨c, t, x, m, k, e⟩ t x = ⟨c, t, x, m, k, e⟩ ∧ stB ⟨c, t, x, m, k, e⟩ t x = true) := ⟨by unfold strS; rw [h]; exact knS_yes h, by unfold stB; rw [h]; exact (Bool.true_and _).trans h⟩
  have HY : Hid (strS ⟨c, t, x, m, k, e⟩ t' x' = ⟨0, 0, 0, 0, 0, 0⟩ ∧ stB ⟨c, t, x, m, k, e⟩ t' x' = false) := ⟨by unfold strS; rw [h]; exact knS_no h2, by unfold stB; rw [h]; exact (Bool.true_and _).trans h2⟩
  clear h h2
  go_enter Try.func5, Try.ntmps5
  go_wp2_with fail
  refine (awake5_any _).mono ?_
  rintro r w1 ⟨rfl, hb1⟩
  have hS1 := hS.later hb1
  replace hb1 : Below w.heap.size w w1 := ((Below.refl _ _).alloc (by simp) _).trans (hb1.mono (by simp))
  have s1 := hS1.lt
  obtain ⟨a0, a1, a2, a3, a4, a5, b0, b1, b2, b3, b4, b5⟩ := hS1.sp
  clear hS
  go_wp2_with fail
  refine (spmay_any c t x m k e _).mono ?_
  rintro r w2 ⟨rfl, hb2⟩
  have hS2 := hS1.later hb2
  replace hb2 := hb1.trans (hb2.mono hb1.size)
  clear hS1 hb1 s1 a0 a1 a2 a3 a4 a5 b0 b1 b2 b3 b4 b5
  rw [H.out]
  have s2 := hS2.lt
  obtain ⟨a0, a1, a2, a3, a4, a5, b0, b1, b2, b3, b4, b5⟩ := hS2.sp
  clear b0 b1 b2 b3 b4 b5
  go_wp2_with fail
  refine (stretch_any c t x m k e t x _).mono ?_
  rintro r w3 ⟨rfl, hb3⟩
  rw [HX.out.1, HX.out.2]
  have hS3 := (hS2.later hb3).later ((Below.refl _ _).alloc (Nat.le_refl _) (.cells #[.int .i64 c, .int .i64 t, .int .i64 x, .int .i64 m, .int .i64 k, .int .i64 e] 23))
  have hX3 : Six (w3.alloc (.cells #[.int .i64 c, .int .i64 t, .int .i64 x, .int .i64 m, .int .i64 k, .int .i64 e] 23)) w3.heap.size (Sp.at ⟨c, t, x, m, k, e⟩) := Six.new w3 ⟨c, t, x, m, k, e⟩
  have s3 : w.heap.size < w3.heap.size := (hS2.later hb3).lt
  replace hb3 := hb2.trans (hb3.mono hb2.size)
  clear hS2 hb2 s2 a0 a1 a2 a3 a4 a5
  obtain ⟨a0, a1, a2, a3, a4, a5, b0, b1, b2, b3, b4, b5⟩ := hS3.sp
  clear b0 b1 b2 b3 b4 b5
  unfold spV
  go_wp2_with fail
  refine (stretch_any c t x m k e t' x' _).mono ?_
  rintro r w4 ⟨rfl, hb4⟩
  rw [HY.out.1, HY.out.2]
  unfold spV
  have hS4 := hS3.later hb4
  have hX4 := hX3.later hb4
  replace hb4 := (hb3.alloc hb3.size _).trans (hb4.mono (by have := hb3.size; simp; omega))
  have s4 := hX4.lt
  have s5 := hS4.lt
  clear hS3 hX3 hb3 s3 a0 a1 a2 a3 a4 a5
  obtain ⟨a0, a1, a2, a3, a4, a5, b0, b1, b2, b3, b4, b5⟩ := hS4.sp
  clear b0 b1 b2 b3 b4 b5
  obtain ⟨y0, y1, y2, y3, y4, y5, b0, b1, b2, b3, b4, b5⟩ := hX4.sp
  clear b0 b1 b2 b3 b4 b5
  have hN : ∀ w, (binOp .neq 23 (.agg #[.int .i64 c, .int .i64 t, .int .i64 x, .int .i64 m, .int .i64 k, .int .i64 e]) (.agg #[.int .i64 c, .int .i64 t, .int .i64 x, .int .i64 m, .int .i64 k, .int .i64 e])).run Try.prog w = .ok (.bool false) w := fun w => by rw [sp_neq, spB_self]; rfl
  have hE : ∀ w, (binOp .eql 23 (.agg #[.int .i64 0, .int .i64 0, .int .i64 0, .int .i64 0, .int .i64 0, .int .i64 0]) (.agg #[.int .i64 0, .int .i64 0, .int .i64 0, .int .i64 0, .int .i64 0, .int .i64 0])).run Try.prog w = .ok (.bool true) w := fun w => by rw [sp_eql, spB_self]
  clear hS4 hX4
  go_wp2_with fail
  go_ret
  exact ⟨rfl, hb4.alloc hb4.size _⟩

set_option maxHeartbeats 1000000 in
set_option maxRecDepth 100000 in
theorem stretch_in1 (c t x m k e t' x' : Int) (w : World) (h : maySp ⟨c, t, x, m, k, e⟩ = true) (h2 : maySp ⟨c, t', x', m, k, e⟩ = true) :
    Calls Try.prog 5 #[.agg #[.int .i64 c, .int .i64 t, .int .i64 x, .int .i64 m, .int .i64 k, .int .i64 e], .int .i64 t', .int .i64 x'] w fun r w' => r = .returned (.bool true) ∧ Below w.heap.size w w' := by
  have hS : Six (w.alloc (.cells #[.int .i64 c, .int .i64 t, .int .i64 x, .int .i64 m, .int .i64 k, .int .i64 e] 23)) w.heap.size (Sp.at ⟨c, t, x, m, k, e⟩) := Six.new w ⟨c, t, x, m, k, e⟩
  have H : Hid (maySp ⟨c, t, x, m, k, e⟩ = true) := h
  have HX : Hid (strS ⟨c, t, x, m, k, e⟩ t x = ⟨c, t, x, m, k, e⟩ ∧ stB ⟨c, t, x, m, k, e⟩ t x = true) := ⟨by unfold strS; rw [h]; exact knS_yes h, by unfold stB; rw [h]; exact (Bool.true_and _).trans h⟩
  have HY : Hid (strS ⟨c, t, x, m, k, e⟩ t' x' = ⟨c, t', x', m, k, e⟩ ∧ stB ⟨c, t, x, m, k, e⟩ t' x' = true) := ⟨by unfold strS; rw [h]; exact knS_yes h2, by unfold stB; rw [h]; exact (Bool.true_and _).trans h2⟩
  have HZ : Hid (strS ⟨c, t', x', m, k, e⟩ t x = ⟨c, t, x, m, k, e⟩ ∧ stB ⟨c, t', x', m, k, e⟩ t x = true) := ⟨by unfold strS; rw [h2]; exact knS_yes h, by unfold stB; rw [h2]; exact (Bool.true_and _).trans h⟩
  have H2 : Hid (maySp ⟨c, t', x', m, k, e⟩ = true) := h2
  clear h h2
  go_enter Try.func5, Try.ntmps5
  go_wp2_with fail
  refine (awake5_any _).mono ?_
  rintro r w1 ⟨rfl, hb1⟩
  have hS1 := hS.later hb1
  replace hb1 : Below w.heap.size w w1 := ((Below.refl _ _).alloc (by simp) _).trans (hb1.mono (by simp))
  have s1 := hS1.lt
  obtain ⟨a0, a1, a2, a3, a4, a5, b0, b1, b2, b3, b4, b5⟩ := hS1.sp
  clear hS
  go_wp2_with fail
  refine (spmay_any c t x m k e _).mono ?_
  rintro r w2 ⟨rfl, hb2⟩
  have hS2 := hS1.later hb2
  replace hb2 := hb1.trans (hb2.mono hb1.size)
  clear hS1 hb1 s1 a0 a1 a2 a3 a4 a5 b0 b1 b2 b3 b4 b5
  rw [H.out]
  have s2 := hS2.lt
  obtain ⟨a0, a1, a2, a3, a4, a5, b0, b1, b2, b3, b4, b5⟩ := hS2.sp
  clear b0 b1 b2 b3 b4 b5
  go_wp2_with fail
  refine (stretch_any c t x m k e t x _).mono ?_
  rintro r w3 ⟨rfl, hb3⟩
  rw [HX.out.1, HX.out.2]
  have hS3 := (hS2.later hb3).later ((Below.refl _ _).alloc (Nat.le_refl _) (.cells #[.int .i64 c, .int .i64 t, .int .i64 x, .int .i64 m, .int .i64 k, .int .i64 e] 23))
  have hX3 : Six (w3.alloc (.cells #[.int .i64 c, .int .i64 t, .int .i64 x, .int .i64 m, .int .i64 k, .int .i64 e] 23)) w3.heap.size (Sp.at ⟨c, t, x, m, k, e⟩) := Six.new w3 ⟨c, t, x, m, k, e⟩
  have s3 : w.heap.size < w3.heap.size := (hS2.later hb3).lt
  replace hb3 := hb2.trans (hb3.mono hb2.size)
  clear hS2 hb2 s2 a0 a1 a2 a3 a4 a5
  obtain ⟨a0, a1, a2, a3, a4, a5, b0, b1, b2, b3, b4, b5⟩ := hS3.sp
  clear b0 b1 b2 b3 b4 b5
  unfold spV
  go_wp2_with fail
  refine (stretch_any c t x m k e t' x' _).mono ?_
  rintro r w4 ⟨rfl, hb4⟩
  rw [HY.out.1, HY.out.2]
  unfold spV
  have hS4 := hS3.later hb4
  have hX4 := hX3.later hb4
  replace hb4 := (hb3.alloc hb3.size _).trans (hb4.mono (by have := hb3.size; simp; omega))
  have s4 := hX4.lt
  have s5 := hS4.lt
  clear hS3 hX3 hb3 s3 a0 a1 a2 a3 a4 a5
  obtain ⟨a0, a1, a2, a3, a4, a5, b0, b1, b2, b3, b4, b5⟩ := hS4.sp
  clear b0 b1 b2 b3 b4 b5
  obtain ⟨y0, y1, y2, y3, y4, y5, b0, b1, b2, b3, b4, b5⟩ := hX4.sp
  clear b0 b1 b2 b3 b4 b5
  have hN : ∀ w, (binOp .neq 23 (.agg #[.int .i64 c, .int .i64 t, .int .i64 x, .int .i64 m, .int .i64 k, .int .i64 e]) (.agg #[.int .i64 c, .int .i64 t, .int .i64 x, .int .i64 m, .int .i64 k, .int .i64 e])).run Try.prog w = .ok (.bool false) w := fun w => by rw [sp_neq, spB_self]; rfl
  have hE : ∀ w, (binOp .eql 23 (.agg #[.int .i64 c, .int .i64 t, .int .i64 x, .int .i64 m, .int .i64 k, .int .i64 e]) (.agg #[.int .i64 c, .int .i64 t, .int .i64 x, .int .i64 m, .int .i64 k, .int .i64 e])).run Try.prog w = .ok (.bool true) w := fun w => by rw [sp_eql, spB_self]
  have HK : Hid (Six w4 w.heap.size (Sp.at ⟨c, t, x, m, k, e⟩)) := hS4
  clear hS4 hX4
  go_wp2_with fail
  refine (stretch_any c t' x' m k e t x _).mono ?_
  rintro r w5 ⟨rfl, hb5⟩
  rw [HZ.out.1, HZ.out.2]
  unfold spV
  have q4 := (Below.refl w4.heap.size w4).alloc (Nat.le_refl _) (.cells #[.int .i64 c, .int .i64 t', .int .i64 x', .int .i64 m, .int .i64 k, .int .i64 e] 23)
  have hS5 := (HK.out.later q4).later hb5
  have hY5 := (show Six (w4.alloc (.cells #[.int .i64 c, .int .i64 t', .int .i64 x', .int .i64 m, .int .i64 k, .int .i64 e] 23)) w4.heap.size (Sp.at ⟨c, t', x', m, k, e⟩) from Six.new w4 ⟨c, t', x', m, k, e⟩).later hb5
  replace hb5 := (hb4.alloc hb4.size _).trans (hb5.mono (by have := hb4.size; simp; omega))
  clear hb4 q4 s4 s5 a0 a1 a2 a3 a4 a5 y0 y1 y2 y3 y4 y5 HK
  have s5 := hS5.lt
  have s6 := hY5.lt
  obtain ⟨y0, y1, y2, y3, y4, y5, b0, b1, b2, b3, b4, b5⟩ := hY5.sp
  clear b0 b1 b2 b3 b4 b5
  go_wp2_with fail
  refine (spmay_any c t' x' m k e _).mono ?_
  rintro r w6 ⟨rfl, hb6⟩
  rw [H2.out]
  have q5 := (Below.refl w5.heap.size w5).alloc (Nat.le_refl _) (.cells #[.int .i64 c, .int .i64 t, .int .i64 x, .int .i64 m, .int .i64 k, .int .i64 e] 23)
  have hS6 := (hS5.later q5).later hb6
  have hY6 := (hY5.later q5).later hb6
  have hZ6 := (show Six (w5.alloc (.cells #[.int .i64 c, .int .i64 t, .int .i64 x, .int .i64 m, .int .i64 k, .int .i64 e] 23)) w5.heap.size (Sp.at ⟨c, t, x, m, k, e⟩) from Six.new w5 ⟨c, t, x, m, k, e⟩).later hb6
  replace hb6 := (hb5.alloc hb5.size _).trans (hb6.mono (by have := hb5.size; simp; omega))
  clear hb5 q5 hS5 hY5 y0 y1 y2 y3 y4 y5 s5 s6
  obtain ⟨a0, a1, a2, a3, a4, a5, b0, b1, b2, b3, b4, b5⟩ := hS6.sp
  clear b0 b1 b2 b3 b4 b5
  obtain ⟨y0, y1, y2, y3, y4, y5, b0, b1, b2, b3, b4, b5⟩ := hY6.sp
  clear b0 b1 b2 b3 b4 b5
  obtain ⟨z0, z1, z2, z3, z4, z5, b0, b1, b2, b3, b4, b5⟩ := hZ6.sp
  clear b0 b1 b2 b3 b4 b5 hS6 hY6 hZ6
  go_wp2_with fail
  go_ret
  exact ⟨rfl, hb6⟩

theorem law_stretch (c t x m k e t' x' : Int) (w : World) :
    Calls Try.prog 5 #[.agg #[.int .i64 c, .int .i64 t, .int .i64 x, .int .i64 m, .int .i64 k, .int .i64 e], .int .i64 t', .int .i64 x'] w fun r w' => r = .returned (.bool true) ∧ Below w.heap.size w w' := by
  cases h : maySp ⟨c, t, x, m, k, e⟩
  · exact stretch_no c t x m k e t' x' w h
  · cases h2 : maySp ⟨c, t', x', m, k, e⟩
    · exact stretch_in0 c t x m k e t' x' w h h2
    · exact stretch_in1 c t x m k e t' x' w h h2
end Go.Proofs.Ytpnmdpffdeebmaa
