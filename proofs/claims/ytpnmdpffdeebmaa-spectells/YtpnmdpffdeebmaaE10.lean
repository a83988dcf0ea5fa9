/- Walks of the document's own answers of chapter 5: Stretch, Put. -/
import Derived.Test.YtpnmdpffdeebmaaE9
import Derived.Test.YtpnmdpffdeebmaaE6
namespace Go.Proofs.Ytpnmdpffdeebmaa
open Go.RowKit

set_option maxHeartbeats 1000000 in
set_option maxRecDepth 100000 in
theorem refStretch_any (c t x m k e t' x' : Int) (w : World) :
    Calls Try.prog 14 #[.agg #[.int .i64 c, .int .i64 t, .int .i64 x, .int .i64 m, .int .i64 k, .int .i64 e], .int .i64 t', .int .i64 x'] w fun r w' => r = .returned (.tuple #[spV (strS ⟨c, t, x, m, k, e⟩ t' x'), .bool (stB ⟨c, t, x, m, k, e⟩ t' x')]) ∧ Below w.heap.size w w' := by
  have hZ : Six (((w.alloc (.cells #[.int .i64 c, .int .i64 t, .int .i64 x, .int .i64 m, .int .i64 k, .int .i64 e] 23)).alloc (.cells #[.int .i64 0, .int .i64 0, .int .i64 0, .int .i64 0, .int .i64 0, .int .i64 0] 23)).alloc (.cells #[.int .i64 c, .int .i64 t', .int .i64 x', .int .i64 m, .int .i64 k, .int .i64 e] 23)) (w.heap.size + 1) (Sp.at ⟨0, 0, 0, 0, 0, 0⟩) := by have := (Six.new (w.alloc (.cells #[.int .i64 c, .int .i64 t, .int .i64 x, .int .i64 m, .int .i64 k, .int .i64 e] 23)) spZ).later ((Below.refl _ _).alloc (Nat.le_refl _) (.cells #[.int .i64 c, .int .i64 t', .int .i64 x', .int .i64 m, .int .i64 k, .int .i64 e] 23)); simp only [World.size_alloc] at this; exact this
  have hN : Six (((w.alloc (.cells #[.int .i64 c, .int .i64 t, .int .i64 x, .int .i64 m, .int .i64 k, .int .i64 e] 23)).alloc (.cells #[.int .i64 0, .int .i64 0, .int .i64 0, .int .i64 0, .int .i64 0, .int .i64 0] 23)).alloc (.cells #[.int .i64 c, .int .i64 t', .int .i64 x', .int .i64 m, .int .i64 k, .int .i64 e] 23)) (w.heap.size + 2) (Sp.at ⟨c, t', x', m, k, e⟩) := by have := Six.new ((w.alloc (.cells #[.int .i64 c, .int .i64 t, .int .i64 x, .int .i64 m, .int .i64 k, .int .i64 e] 23)).alloc (.cells #[.int .i64 0, .int .i64 0, .int .i64 0, .int .i64 0, .int .i64 0, .int .i64 0] 23)) ⟨c, t', x', m, k, e⟩; simp only [World.size_alloc] at this; exact this
  rcases Bool.eq_false_or_eq_true (maySp ⟨c, t, x, m, k, e⟩) with h1 | h1 <;> rcases Bool.eq_false_or_eq_true (maySp ⟨c, t', x', m, k, e⟩) with h2 | h2
  · have H : Hid (strS ⟨c, t, x, m, k, e⟩ t' x' = ⟨c, t', x', m, k, e⟩) := by show _ = _; unfold strS; rw [h1]; exact knS_yes h2
    have H' : Hid (stB ⟨c, t, x, m, k, e⟩ t' x' = true) := by show _ = _; unfold stB; rw [h1]; exact (Bool.true_and _).trans h2
    have H1 : Hid (maySp ⟨c, t, x, m, k, e⟩ = true) := h1
    have H2 : Hid (maySp ⟨c, t', x', m, k, e⟩ = true) := h2
    clear h1 h2
    go_enter Try.func14, Try.ntmps14
    go_wp2_with fail
    refine (refSp_any c t x m k e _).mono ?_
    rintro r w1 ⟨rfl, hb1⟩
    have hN1 := hN.later hb1
    obtain ⟨p0, p1, p2, p3, p4, p5, o0, o1, o2, o3, o4, o5⟩ := hN1.sp
    rw [H1.out]
    go_wp2_with fail
    refine (refSp_any c t' x' m k e _).mono ?_
    rintro r w2 ⟨rfl, hb2⟩
    rw [H2.out]
    clear p0 p1 p2 p3 p4 p5 o0 o1 o2 o3 o4 o5 hN1
    have hZ2 := (hZ.later hb1).later hb2
    have hN2 := (hN.later hb1).later hb2
    obtain ⟨n0, n1, n2, n3, n4, n5, m0, m1, m2, m3, m4, m5⟩ := hN2.sp
    have hb : Below w.heap.size w w2 := ((((Below.refl _ _).alloc (by simp) _).alloc (by simp) _).alloc (by simp; omega) _ |>.trans (hb1.mono (by simp; omega))).trans (hb2.mono (by have := hb1.size; simp at this; omega))
    have s2 := hZ2.lt
    clear hb1 hb2 hZ hN
    obtain ⟨z0, z1, z2, z3, z4, z5, y0, y1, y2, y3, y4, y5⟩ := hZ2.sp
    go_wp2_with fail
    refine bodyPost_ret (v := .tuple #[spV ⟨c, t', x', m, k, e⟩, .bool true]) ?_ rfl ⟨by rw [H.out, H'.out], below6 hb (by simp) c t' x' m k e⟩
    simp [results, Try.results14, go_sem, spV, z0, z1, z2, z3, z4, z5]
  · have H : Hid (strS ⟨c, t, x, m, k, e⟩ t' x' = spZ) := by show _ = _; unfold strS; rw [h1]; exact knS_no h2
    have H' : Hid (stB ⟨c, t, x, m, k, e⟩ t' x' = false) := by show _ = _; unfold stB; rw [h1]; exact (Bool.true_and _).trans h2
    have H1 : Hid (maySp ⟨c, t, x, m, k, e⟩ = true) := h1
    have H2 : Hid (maySp ⟨c, t', x', m, k, e⟩ = false) := h2
    clear h1 h2
    go_enter Try.func14, Try.ntmps14
    go_wp2_with fail
    refine (refSp_any c t x m k e _).mono ?_
    rintro r w1 ⟨rfl, hb1⟩
    have hN1 := hN.later hb1
    obtain ⟨p0, p1, p2, p3, p4, p5, o0, o1, o2, o3, o4, o5⟩ := hN1.sp
    rw [H1.out]
    go_wp2_with fail
    refine (refSp_any c t' x' m k e _).mono ?_
    rintro r w2 ⟨rfl, hb2⟩
    rw [H2.out]
    clear p0 p1 p2 p3 p4 p5 o0 o1 o2 o3 o4 o5 hN1
    have hZ2 := (hZ.later hb1).later hb2
    have hb : Below w.heap.size w w2 := ((((Below.refl _ _).alloc (by simp) _).alloc (by simp) _).alloc (by simp; omega) _ |>.trans (hb1.mono (by simp; omega))).trans (hb2.mono (by have := hb1.size; simp at this; omega))
    have s2 := hZ2.lt
    clear hb1 hb2 hZ hN
    obtain ⟨z0, z1, z2, z3, z4, z5, y0, y1, y2, y3, y4, y5⟩ := hZ2.sp
    go_wp2_with fail
    refine bodyPost_ret (v := .tuple #[spV spZ, .bool false]) ?_ rfl ⟨by rw [H.out, H'.out], below6 hb (by simp) 0 0 0 0 0 0⟩
    simp [results, Try.results14, go_sem, spV, spZ, z0, z1, z2, z3, z4, z5]
  · have H : Hid (strS ⟨c, t, x, m, k, e⟩ t' x' = spZ) := by show _ = _; unfold strS; rw [h1]; rfl
    have H' : Hid (stB ⟨c, t, x, m, k, e⟩ t' x' = false) := by show _ = _; unfold stB; rw [h1]; rfl
    have H1 : Hid (maySp ⟨c, t, x, m, k, e⟩ = false) := h1
    have H2 : Hid (maySp ⟨c, t', x', m, k, e⟩ = true) := h2
    clear h1 h2
    go_enter Try.func14, Try.ntmps14
    go_wp2_with fail
    refine (refSp_any c t x m k e _).mono ?_
    rintro r w1 ⟨rfl, hb1⟩
    have hN1 := hN.later hb1
    obtain ⟨p0, p1, p2, p3, p4, p5, o0, o1, o2, o3, o4, o5⟩ := hN1.sp
    rw [H1.out]
    go_wp2_with fail
    refine (refSp_any c t' x' m k e _).mono ?_
    rintro r w2 ⟨rfl, hb2⟩
    rw [H2.out]
    clear p0 p1 p2 p3 p4 p5 o0 o1 o2 o3 o4 o5 hN1
    have hZ2 := (hZ.later hb1).later hb2
    have hb : Below w.heap.size w w2 := ((((Below.refl _ _).alloc (by simp) _).alloc (by simp) _).alloc (by simp; omega) _ |>.trans (hb1.mono (by simp; omega))).trans (hb2.mono (by have := hb1.size; simp at this; omega))
    have s2 := hZ2.lt
    clear hb1 hb2 hZ hN
    obtain ⟨z0, z1, z2, z3, z4, z5, y0, y1, y2, y3, y4, y5⟩ := hZ2.sp
    go_wp2_with fail
    refine bodyPost_ret (v := .tuple #[spV spZ, .bool false]) ?_ rfl ⟨by rw [H.out, H'.out], below6 hb (by simp) 0 0 0 0 0 0⟩
    simp [results, Try.results14, go_sem, spV, spZ, z0, z1, z2, z3, z4, z5]
  · have H : Hid (strS ⟨c, t, x, m, k, e⟩ t' x' = spZ) := by show _ = _; unfold strS; rw [h1]; rfl
    have H' : Hid (stB ⟨c, t, x, m, k, e⟩ t' x' = false) := by show _ = _; unfold stB; rw [h1]; rfl
    have H1 : Hid (maySp ⟨c, t, x, m, k, e⟩ = false) := h1
    have H2 : Hid (maySp ⟨c, t', x', m, k, e⟩ = false) := h2
    clear h1 h2
    go_enter Try.func14, Try.ntmps14
    go_wp2_with fail
    refine (refSp_any c t x m k e _).mono ?_
    rintro r w1 ⟨rfl, hb1⟩
    have hN1 := hN.later hb1
    obtain ⟨p0, p1, p2, p3, p4, p5, o0, o1, o2, o3, o4, o5⟩ := hN1.sp
    rw [H1.out]
    go_wp2_with fail
    refine (refSp_any c t' x' m k e _).mono ?_
    rintro r w2 ⟨rfl, hb2⟩
    rw [H2.out]
    clear p0 p1 p2 p3 p4 p5 o0 o1 o2 o3 o4 o5 hN1
    have hZ2 := (hZ.later hb1).later hb2
    have hb : Below w.heap.size w w2 := ((((Below.refl _ _).alloc (by simp) _).alloc (by simp) _).alloc (by simp; omega) _ |>.trans (hb1.mono (by simp; omega))).trans (hb2.mono (by have := hb1.size; simp at this; omega))
    have s2 := hZ2.lt
    clear hb1 hb2 hZ hN
    obtain ⟨z0, z1, z2, z3, z4, z5, y0, y1, y2, y3, y4, y5⟩ := hZ2.sp
    go_wp2_with fail
    refine bodyPost_ret (v := .tuple #[spV spZ, .bool false]) ?_ rfl ⟨by rw [H.out, H'.out], below6 hb (by simp) 0 0 0 0 0 0⟩
    simp [results, Try.results14, go_sem, spV, spZ, z0, z1, z2, z3, z4, z5]

set_option maxHeartbeats 1000000 in
set_option maxRecDepth 100000 in
theorem refPut_any (c t x m k e : Int) (w : World) :
    Calls Try.prog 10 #[.agg #[.int .i64 c, .int .i64 t, .int .i64 x, .int .i64 m, .int .i64 k, .int .i64 e]] w fun r w' => ∃ v, r = .returned (.tuple #[v, .bool (maySp ⟨c, t, x, m, k, e⟩)]) ∧ Bys w' v (byS ⟨c, t, x, m, k, e⟩) ∧ Below w.heap.size w w' := by
  have hS : Six (w.alloc (.cells #[.int .i64 c, .int .i64 t, .int .i64 x, .int .i64 m, .int .i64 k, .int .i64 e] 23)) w.heap.size (Sp.at ⟨c, t, x, m, k, e⟩) := Six.new w ⟨c, t, x, m, k, e⟩
  cases h : maySp ⟨c, t, x, m, k, e⟩
  · have H : Hid (maySp ⟨c, t, x, m, k, e⟩ = false) := h
    have H0 : Hid (byS ⟨c, t, x, m, k, e⟩ = []) := byS_no h
    clear h
    go_enter Try.func10, Try.ntmps10
    go_wp2_with fail
    refine (refSp_any c t x m k e _).mono ?_
    rintro r w1 ⟨rfl, hb1⟩
    rw [H.out]
    have hb : Below w.heap.size w w1 := ((Below.refl _ _).alloc (by simp) _).trans (hb1.mono (by simp))
    clear hb1 hS
    go_wp2_with fail
    go_ret2
    exact ⟨_, rfl, by rw [H0.out]; exact Bys.none _, hb⟩
  · have H : Hid (maySp ⟨c, t, x, m, k, e⟩ = true) := h
    obtain ⟨⟨l0, u0⟩, ⟨l1, u1⟩, ⟨l2, u2⟩, ⟨l3, u3⟩, ⟨l4, u4⟩, ⟨l5, u5⟩⟩ := may_bd h
    clear h
    go_enter Try.func10, Try.ntmps10
    go_wp2_with fail
    refine (refSp_any c t x m k e _).mono ?_
    rintro r w1 ⟨rfl, hb1⟩
    rw [H.out]
    have hb : Below w.heap.size w w1 := ((Below.refl _ _).alloc (by simp) _).trans (hb1.mono (by simp))
    have hS1 := hS.later hb1
    have s1 := hb.size
    obtain ⟨z0, z1, z2, z3, z4, z5, y0, y1, y2, y3, y4, y5⟩ := hS1.sp
    clear hS hS1 hb1 y0 y1 y2 y3 y4 y5
    go_wp2_with fail
    go_ret2
    refine ⟨_, rfl, Byt.bys (s := ⟨c, t, x, m, k, e⟩) ?_ H.out, hb.alloc s1 _⟩
    intro i hi
    rcases (show i = 0 ∨ i = 1 ∨ i = 2 ∨ i = 3 ∨ i = 4 ∨ i = 5 by omega) with rfl | rfl | rfl | rfl | rfl | rfl <;> exact ⟨by simp [Sp.at], by simp⟩
end Go.Proofs.Ytpnmdpffdeebmaa
