/- Walks of package live: leads, mayAt. -/
import Derived.Test.YthbppojglhimnaaZ1
namespace Go.Proofs.Ythbppojglhimnaa
open Go.RowKit

theorem lwi_any (n a b : Int) (w : World) :
    Calls Try.prog 24 #[.int .i64 n, .int .i64 a, .int .i64 b] w fun e w' => e = .returned (.bool (wiB n a b)) ∧ w' = w := by
  by_cases c0 : a ≤ n
  · have H : Hid (wiB n a b = decide (n ≤ b)) := by show _ = _; unfold wiB; simp [c0]
    go_enter Try.func24, Try.ntmps24
    go_wp2
    go_ret
    exact ⟨ret_b H.out.symm, rfl⟩
  · have H : Hid (wiB n a b = false) := by show _ = _; unfold wiB; simp [c0]
    go_enter Try.func24, Try.ntmps24
    go_wp2
    go_ret
    exact ⟨ret_b H.out.symm, rfl⟩
theorem twi_any (n a b : Int) (w : World) :
    Calls Try.prog 15 #[.int .i64 n, .int .i64 a, .int .i64 b] w fun e w' => e = .returned (.bool (wiB n a b)) ∧ w' = w := by
  by_cases c0 : a ≤ n
  · have H : Hid (wiB n a b = decide (n ≤ b)) := by show _ = _; unfold wiB; simp [c0]
    go_enter Try.func15, Try.ntmps15
    go_wp2
    go_ret
    exact ⟨ret_b H.out.symm, rfl⟩
  · have H : Hid (wiB n a b = false) := by show _ = _; unfold wiB; simp [c0]
    go_enter Try.func15, Try.ntmps15
    go_wp2
    go_ret
    exact ⟨ret_b H.out.symm, rfl⟩
set_option maxHeartbeats 4000000 in
set_option maxRecDepth 100000 in
theorem leads_any (ec et ex em ek ee : Int) (o : Bool) (jn r u : Int) (b : Bool) (c d x p a n : Int) (now : Int) (w : World) (hw : IntKind.i64.wrap (jn + 1) = jn + 1) :
    Calls Try.prog 30 #[.agg #[.int .i64 ec, .int .i64 et, .int .i64 ex, .int .i64 em, .int .i64 ek, .int .i64 ee, .bool o, .int .i64 jn, .int .i64 r, .int .i64 u, .bool b, .int .i64 c, .int .i64 d, .int .i64 x, .int .i64 p, .int .i64 a, .int .i64 n], .int .i64 now] w fun e w' => e = .returned (.bool (ldB ⟨o, jn, r, u, b, c, d, x⟩ a n now)) ∧ Below w.heap.size w w' := by
  have hB : Bk (w.alloc (.cells #[.int .i64 ec, .int .i64 et, .int .i64 ex, .int .i64 em, .int .i64 ek, .int .i64 ee, .bool o, .int .i64 jn, .int .i64 r, .int .i64 u, .bool b, .int .i64 c, .int .i64 d, .int .i64 x, .int .i64 p, .int .i64 a, .int .i64 n] 39)) w.heap.size [.int .i64 ec, .int .i64 et, .int .i64 ex, .int .i64 em, .int .i64 ek, .int .i64 ee, .bool o, .int .i64 jn, .int .i64 r, .int .i64 u, .bool b, .int .i64 c, .int .i64 d, .int .i64 x, .int .i64 p, .int .i64 a, .int .i64 n] := Bk.new w _ _
  obtain ⟨g0, g1, g2, g3, g4, g5, g6, g7, g8, g9, g10, g11, g12, g13, g14, g15, g16⟩ := hB.c17
  clear hB
  have HW : Hid (Below w.heap.size w (w.alloc (.cells #[.int .i64 ec, .int .i64 et, .int .i64 ex, .int .i64 em, .int .i64 ek, .int .i64 ee, .bool o, .int .i64 jn, .int .i64 r, .int .i64 u, .bool b, .int .i64 c, .int .i64 d, .int .i64 x, .int .i64 p, .int .i64 a, .int .i64 n] 39))) := (Below.refl _ _).alloc (Nat.le_refl _) _
  by_cases c1 : r < now
  rotate_left
  · have H : Hid (ldB ⟨o, jn, r, u, b, c, d, x⟩ a n now = false) := by show _ = _; simp [ldB, c1]
    go_enter Try.func30, Try.ntmps30
    go_wp2
    go_ret
    exact ⟨ret_b H.out.symm, HW.out⟩
  by_cases c2 : u = a
  rotate_left
  · have H : Hid (ldB ⟨o, jn, r, u, b, c, d, x⟩ a n now = false) := by show _ = _; simp [ldB, c2]
    have c2' : (u == a) = false := by simpa using c2
    go_enter Try.func30, Try.ntmps30
    go_wp2
    go_ret
    exact ⟨ret_b H.out.symm, HW.out⟩
  have c2' : (u == a) = true := by simpa using c2
  have H : Hid (ldB ⟨o, jn, r, u, b, c, d, x⟩ a n now = decide (n = jn + 1)) := by show _ = _; simp [ldB, c1, c2]
  clear c2
  go_enter Try.func30, Try.ntmps30
  go_wp2
  go_ret
  exact ⟨ret_b (by rw [H.out]; first | rfl | (rw [Bool.eq_iff_iff]; simp)), HW.out⟩
theorem jn_wrap {s : Sp} {n r u : Int} {b : Bool} {c d x : Int} (h : jmB s ⟨true, n, r, u, b, c, d, x⟩ = true) : IntKind.i64.wrap (n + 1) = n + 1 := by
  unfold jmB at h
  rw [Bool.and_eq_true] at h
  have h2 : jinB s ⟨true, n, r, u, b, c, d, x⟩ = true := h.2
  unfold jinB at h2
  rw [Bool.and_eq_true] at h2
  have h3 := of_decide_eq_true h2.1
  simp only at h3
  rw [IntKind.wrap_i64]
  omega
set_option maxHeartbeats 4000000 in
set_option maxRecDepth 100000 in
theorem mayAt_any (ec et ex em ek ee : Int) (o : Bool) (jn r u : Int) (b : Bool) (c d x p a n : Int) (now : Int) (w : World) (hw : IntKind.i64.wrap (now + 48) = now + 48) :
    Calls Try.prog 25 #[.agg #[.int .i64 ec, .int .i64 et, .int .i64 ex, .int .i64 em, .int .i64 ek, .int .i64 ee, .bool o, .int .i64 jn, .int .i64 r, .int .i64 u, .bool b, .int .i64 c, .int .i64 d, .int .i64 x, .int .i64 p, .int .i64 a, .int .i64 n], .int .i64 now] w fun e w' => e = .returned (.bool (mvB ⟨ec, et, ex, em, ek, ee⟩ ⟨o, jn, r, u, b, c, d, x⟩ p a n now)) ∧ Below w.heap.size w w' := by
  have HB : Hid (Bk (w.alloc (.cells #[.int .i64 ec, .int .i64 et, .int .i64 ex, .int .i64 em, .int .i64 ek, .int .i64 ee, .bool o, .int .i64 jn, .int .i64 r, .int .i64 u, .bool b, .int .i64 c, .int .i64 d, .int .i64 x, .int .i64 p, .int .i64 a, .int .i64 n] 39)) w.heap.size [.int .i64 ec, .int .i64 et, .int .i64 ex, .int .i64 em, .int .i64 ek, .int .i64 ee, .bool o, .int .i64 jn, .int .i64 r, .int .i64 u, .bool b, .int .i64 c, .int .i64 d, .int .i64 x, .int .i64 p, .int .i64 a, .int .i64 n]) := Bk.new w _ _
  have HW : Hid (Below w.heap.size w (w.alloc (.cells #[.int .i64 ec, .int .i64 et, .int .i64 ex, .int .i64 em, .int .i64 ek, .int .i64 ee, .bool o, .int .i64 jn, .int .i64 r, .int .i64 u, .bool b, .int .i64 c, .int .i64 d, .int .i64 x, .int .i64 p, .int .i64 a, .int .i64 n] 39))) := (Below.refl _ _).alloc (Nat.le_refl _) _
  have HK : Hid (IntKind.i64.wrap (now + 48) = now + 48) := hw
  clear hw
  obtain ⟨q1, h1⟩ : ∃ q, maySp ⟨ec, et, ex, em, ek, ee⟩ = q := ⟨_, rfl⟩
  obtain ⟨q2, h2⟩ : ∃ q, wiB p et ex = q := ⟨_, rfl⟩
  obtain ⟨q3, h3⟩ : ∃ q, wiB a now (now + 48) = q := ⟨_, rfl⟩
  obtain ⟨q4, h4⟩ : ∃ q, wiB n 0 549755813888 = q := ⟨_, rfl⟩
  obtain ⟨q5, h5⟩ : ∃ q, jmB ⟨ec, et, ex, em, ek, ee⟩ ⟨o, jn, r, u, b, c, d, x⟩ = q := ⟨_, rfl⟩
  have HR : Hid (mvB ⟨ec, et, ex, em, ek, ee⟩ ⟨o, jn, r, u, b, c, d, x⟩ p a n now = (q1 && (q2 && (q3 && (q4 && (q5 && (!o || ldB ⟨o, jn, r, u, b, c, d, x⟩ a n now))))))) := by show _ = _; unfold mvB; simp only [h1, h2, h3, h4, h5]
  have H1 : Hid (maySp ⟨ec, et, ex, em, ek, ee⟩ = q1) := h1
  have H2 : Hid (wiB p et ex = q2) := h2
  have H3 : Hid (wiB a now (now + 48) = q3) := h3
  have H4 : Hid (wiB n 0 549755813888 = q4) := h4
  have H5 : Hid (jmB ⟨ec, et, ex, em, ek, ee⟩ ⟨o, jn, r, u, b, c, d, x⟩ = q5) := h5
  clear h1 h2 h3 h4 h5
  obtain ⟨g0, g1, g2, g3, g4, g5, g6, g7, g8, g9, g10, g11, g12, g13, g14, g15, g16⟩ := HB.out.c17
  go_enter Try.func25, Try.ntmps25
  go_wp2_with fail
  generalize (w.alloc (.cells #[.int .i64 ec, .int .i64 et, .int .i64 ex, .int .i64 em, .int .i64 ek, .int .i64 ee, .bool o, .int .i64 jn, .int .i64 r, .int .i64 u, .bool b, .int .i64 c, .int .i64 d, .int .i64 x, .int .i64 p, .int .i64 a, .int .i64 n] 39)) = W at *
  refine (spmay_any ec et ex em ek ee _).mono ?_
  rintro e w1 ⟨rfl, hb1⟩
  rw [H1.out]
  have HB1 : Hid (Below W.heap.size W w1) := hb1
  clear hb1
  clear g0 g1 g2 g3 g4 g5 g6 g7 g8 g9 g10 g11 g12 g13 g14 g15 g16
  obtain ⟨g0, g1, g2, g3, g4, g5, g6, g7, g8, g9, g10, g11, g12, g13, g14, g15, g16⟩ := (HB.out.later HB1.out).c17
  cases q1
  · go_wp2; go_ret; exact ⟨ret_b HR.out.symm, HW.out.trans (HB1.out.mono HW.out.size)⟩
  have hw := HK.out
  go_wp2_with fail
  refine (lwi_any p et ex _).mono ?_
  rintro e w2 ⟨rfl, hw2⟩
  obtain rfl := hw2
  rw [H2.out]
  cases q2
  · go_wp2; go_ret; exact ⟨ret_b HR.out.symm, HW.out.trans (HB1.out.mono HW.out.size)⟩
  go_wp2_with fail
  refine (lwi_any a now (now + 48) _).mono ?_
  rintro e w3 ⟨rfl, hw3⟩
  obtain rfl := hw3
  rw [H3.out]
  cases q3
  · go_wp2; go_ret; exact ⟨ret_b HR.out.symm, HW.out.trans (HB1.out.mono HW.out.size)⟩
  go_wp2_with fail
  refine (lwi_any n 0 549755813888 _).mono ?_
  rintro e w4 ⟨rfl, hw4⟩
  obtain rfl := hw4
  rw [H4.out]
  cases q4
  · go_wp2; go_ret; exact ⟨ret_b HR.out.symm, HW.out.trans (HB1.out.mono HW.out.size)⟩
  go_wp2_with fail
  refine (jmay_any ec et ex em ek ee o jn r u b c d x _).mono ?_
  rintro e w5 ⟨rfl, hb5⟩
  rw [H5.out]
  have HB5 : Hid (Below W.heap.size W w5) := HB1.out.trans (hb5.mono HB1.out.size)
  clear hb5 hw
  clear g0 g1 g2 g3 g4 g5 g6 g7 g8 g9 g10 g11 g12 g13 g14 g15 g16
  obtain ⟨g0, g1, g2, g3, g4, g5, g6, g7, g8, g9, g10, g11, g12, g13, g14, g15, g16⟩ := (HB.out.later HB5.out).c17
  cases q5
  · go_wp2; go_ret; exact ⟨ret_b HR.out.symm, HW.out.trans (HB5.out.mono HW.out.size)⟩
  cases o
  · go_wp2; go_ret; exact ⟨ret_b HR.out.symm, HW.out.trans (HB5.out.mono HW.out.size)⟩
  have hj := jn_wrap H5.out
  have HJ : Hid (IntKind.i64.wrap (jn + 1) = jn + 1) := hj
  clear hj
  go_wp2_with fail
  refine (leads_any ec et ex em ek ee true jn r u b c d x p a n now _ HJ.out).mono ?_
  rintro e w6 ⟨rfl, hb6⟩
  have HB6 : Hid (Below W.heap.size W w6) := HB5.out.trans (hb6.mono HB5.out.size)
  clear hb6
  go_wp2; go_ret; exact ⟨ret_b HR.out.symm, HW.out.trans (HB6.out.mono HW.out.size)⟩
end Go.Proofs.Ythbppojglhimnaa
