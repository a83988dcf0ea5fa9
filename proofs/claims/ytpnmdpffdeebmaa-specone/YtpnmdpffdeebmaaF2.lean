/- What the statement SpecOne comes to. -/
import Derived.Test.YtpnmdpffdeebmaaF1
namespace Go.Proofs.Ytpnmdpffdeebmaa
open Go.RowKit

theorem lst_same (c t x m k e c' t' x' m' k' e' : Int) : sameB (lst ⟨c, t, x, m, k, e⟩) (lst ⟨c', t', x', m', k', e'⟩) = spB c t x m k e c' t' x' m' k' e' := by
  rw [Bool.eq_iff_iff]
  simp [sameB, spB, lst]
theorem one_facts {c t x m k e : Int} (h : maySp ⟨c, t, x, m, k, e⟩ = true) : maySp ⟨c, t, t, m, k, e⟩ = true := by
  rw [maySp_eq] at h ⊢
  have h' := of_decide_eq_true h
  simp only at h'
  exact decide_eq_true ⟨h'.1, h'.2.1, h'.2.2.1, Int.le_refl _, (by show t ≤ 48; omega), h'.2.2.2.2.2.1, h'.2.2.2.2.2.2.1, h'.2.2.2.2.2.2.2.1, Or.inr rfl⟩

set_option maxHeartbeats 1000000 in
set_option maxRecDepth 100000 in
theorem one_no (c t x m k e c' t' x' m' k' e' : Int) (w : World) (h1 : maySp ⟨c, t, x, m, k, e⟩ = false) :
    Calls Try.prog 6 #[.agg #[.int .i64 c, .int .i64 t, .int .i64 x, .int .i64 m, .int .i64 k, .int .i64 e], .agg #[.int .i64 c', .int .i64 t', .int .i64 x', .int .i64 m', .int .i64 k', .int .i64 e']] w fun r w' => r = .returned (.bool true) ∧ Below w.heap.size w w' := by
  have H1 : Hid (maySp ⟨c, t, x, m, k, e⟩ = false) := h1
  have H2 : Hid (maySp ⟨c', t', x', m', k', e'⟩ = maySp ⟨c', t', x', m', k', e'⟩) := rfl
  clear h1
  cases h2 : maySp ⟨c', t', x', m', k', e'⟩
  · replace H2 : Hid (maySp ⟨c', t', x', m', k', e'⟩ = false) := h2
    clear h2
    have hS : Six ((w.alloc (.cells #[.int .i64 c, .int .i64 t, .int .i64 x, .int .i64 m, .int .i64 k, .int .i64 e] 23)).alloc (.cells #[.int .i64 c', .int .i64 t', .int .i64 x', .int .i64 m', .int .i64 k', .int .i64 e'] 23)) w.heap.size (Sp.at ⟨c, t, x, m, k, e⟩) := (Six.new w ⟨c, t, x, m, k, e⟩).later ((Below.refl _ _).alloc (Nat.le_refl _) _)
    have hT : Six ((w.alloc (.cells #[.int .i64 c, .int .i64 t, .int .i64 x, .int .i64 m, .int .i64 k, .int .i64 e] 23)).alloc (.cells #[.int .i64 c', .int .i64 t', .int .i64 x', .int .i64 m', .int .i64 k', .int .i64 e'] 23)) (w.heap.size + 1) (Sp.at ⟨c', t', x', m', k', e'⟩) := by have := Six.new (w.alloc (.cells #[.int .i64 c, .int .i64 t, .int .i64 x, .int .i64 m, .int .i64 k, .int .i64 e] 23)) ⟨c', t', x', m', k', e'⟩; simp only [World.size_alloc] at this; exact this
    go_enter Try.func6, Try.ntmps6
    go_wp2_with fail
    refine (awake5_any _).mono ?_
    rintro r w1 ⟨rfl, hb1⟩
    have hS1 := hS.later hb1
    have hT1 := hT.later hb1
    replace hb1 : Below w.heap.size w w1 := (((Below.refl _ _).alloc (by simp) _).alloc (by simp) _).trans (hb1.mono (by simp; omega))
    have s1 := hT1.lt
    obtain ⟨a0, a1, a2, a3, a4, a5, b0, b1, b2, b3, b4, b5⟩ := hS1.sp
    clear hS hT
    go_wp2_with fail
    refine (spput_any c t x m k e _).mono ?_
    rintro r w2 ⟨va, rfl, hva, hb2⟩
    rw [H1.out]
    have hS2 := hS1.later hb2
    have hT2 := hT1.later hb2
    replace hb2 := hb1.trans (hb2.mono hb1.size)
    clear hS1 hT1 hb1 s1 a0 a1 a2 a3 a4 a5 b0 b1 b2 b3 b4 b5
    obtain ⟨d0, d1, d2, d3, d4, d5, g0, g1, g2, g3, g4, g5⟩ := hT2.sp
    go_wp2_with fail
    refine (spput_any c' t' x' m' k' e' _).mono ?_
    rintro r w3 ⟨vb, rfl, hvb, hb3⟩
    rw [H2.out]
    have hS3 := hS2.later hb3
    have hT3 := hT2.later hb3
    have hva3 := hva.later hb3
    replace hb3 := hb2.trans (hb3.mono hb2.size)
    clear hS2 hT2 hb2 hva d0 d1 d2 d3 d4 d5 g0 g1 g2 g3 g4 g5
    go_wp2_with fail
    go_ret
    exact ⟨rfl, hb3⟩
  · replace H2 : Hid (maySp ⟨c', t', x', m', k', e'⟩ = true) := h2
    clear h2
    have hS : Six ((w.alloc (.cells #[.int .i64 c, .int .i64 t, .int .i64 x, .int .i64 m, .int .i64 k, .int .i64 e] 23)).alloc (.cells #[.int .i64 c', .int .i64 t', .int .i64 x', .int .i64 m', .int .i64 k', .int .i64 e'] 23)) w.heap.size (Sp.at ⟨c, t, x, m, k, e⟩) := (Six.new w ⟨c, t, x, m, k, e⟩).later ((Below.refl _ _).alloc (Nat.le_refl _) _)
    have hT : Six ((w.alloc (.cells #[.int .i64 c, .int .i64 t, .int .i64 x, .int .i64 m, .int .i64 k, .int .i64 e] 23)).alloc (.cells #[.int .i64 c', .int .i64 t', .int .i64 x', .int .i64 m', .int .i64 k', .int .i64 e'] 23)) (w.heap.size + 1) (Sp.at ⟨c', t', x', m', k', e'⟩) := by have := Six.new (w.alloc (.cells #[.int .i64 c, .int .i64 t, .int .i64 x, .int .i64 m, .int .i64 k, .int .i64 e] 23)) ⟨c', t', x', m', k', e'⟩; simp only [World.size_alloc] at this; exact this
    go_enter Try.func6, Try.ntmps6
    go_wp2_with fail
    refine (awake5_any _).mono ?_
    rintro r w1 ⟨rfl, hb1⟩
    have hS1 := hS.later hb1
    have hT1 := hT.later hb1
    replace hb1 : Below w.heap.size w w1 := (((Below.refl _ _).alloc (by simp) _).alloc (by simp) _).trans (hb1.mono (by simp; omega))
    have s1 := hT1.lt
    obtain ⟨a0, a1, a2, a3, a4, a5, b0, b1, b2, b3, b4, b5⟩ := hS1.sp
    clear hS hT
    go_wp2_with fail
    refine (spput_any c t x m k e _).mono ?_
    rintro r w2 ⟨va, rfl, hva, hb2⟩
    rw [H1.out]
    have hS2 := hS1.later hb2
    have hT2 := hT1.later hb2
    replace hb2 := hb1.trans (hb2.mono hb1.size)
    clear hS1 hT1 hb1 s1 a0 a1 a2 a3 a4 a5 b0 b1 b2 b3 b4 b5
    obtain ⟨d0, d1, d2, d3, d4, d5, g0, g1, g2, g3, g4, g5⟩ := hT2.sp
    go_wp2_with fail
    refine (spput_any c' t' x' m' k' e' _).mono ?_
    rintro r w3 ⟨vb, rfl, hvb, hb3⟩
    rw [H2.out]
    have hS3 := hS2.later hb3
    have hT3 := hT2.later hb3
    have hva3 := hva.later hb3
    replace hb3 := hb2.trans (hb3.mono hb2.size)
    clear hS2 hT2 hb2 hva d0 d1 d2 d3 d4 d5 g0 g1 g2 g3 g4 g5
    go_wp2_with fail
    go_ret
    exact ⟨rfl, hb3⟩

set_option maxHeartbeats 1000000 in
set_option maxRecDepth 100000 in
theorem one_no2 (c t x m k e c' t' x' m' k' e' : Int) (w : World) (h1 : maySp ⟨c, t, x, m, k, e⟩ = true) (h2 : maySp ⟨c', t', x', m', k', e'⟩ = false) :
    Calls Try.prog 6 #[.agg #[.int .i64 c, .int .i64 t, .int .i64 x, .int .i64 m, .int .i64 k, .int .i64 e], .agg #[.int .i64 c', .int .i64 t', .int .i64 x', .int .i64 m', .int .i64 k', .int .i64 e']] w fun r w' => r = .returned (.bool true) ∧ Below w.heap.size w w' := by
  have H1 : Hid (maySp ⟨c, t, x, m, k, e⟩ = true) := h1
  have H2 : Hid (maySp ⟨c', t', x', m', k', e'⟩ = false) := h2
  clear h1 h2
  have hS : Six ((w.alloc (.cells #[.int .i64 c, .int .i64 t, .int .i64 x, .int .i64 m, .int .i64 k, .int .i64 e] 23)).alloc (.cells #[.int .i64 c', .int .i64 t', .int .i64 x', .int .i64 m', .int .i64 k', .int .i64 e'] 23)) w.heap.size (Sp.at ⟨c, t, x, m, k, e⟩) := (Six.new w ⟨c, t, x, m, k, e⟩).later ((Below.refl _ _).alloc (Nat.le_refl _) _)
  have hT : Six ((w.alloc (.cells #[.int .i64 c, .int .i64 t, .int .i64 x, .int .i64 m, .int .i64 k, .int .i64 e] 23)).alloc (.cells #[.int .i64 c', .int .i64 t', .int .i64 x', .int .i64 m', .int .i64 k', .int .i64 e'] 23)) (w.heap.size + 1) (Sp.at ⟨c', t', x', m', k', e'⟩) := by have := Six.new (w.alloc (.cells #[.int .i64 c, .int .i64 t, .int .i64 x, .int .i64 m, .int .i64 k, .int .i64 e] 23)) ⟨c', t', x', m', k', e'⟩; simp only [World.size_alloc] at this; exact this
  go_enter Try.func6, Try.ntmps6
  go_wp2_with fail
  refine (awake5_any _).mono ?_
  rintro r w1 ⟨rfl, hb1⟩
  have hS1 := hS.later hb1
  have hT1 := hT.later hb1
  replace hb1 : Below w.heap.size w w1 := (((Below.refl _ _).alloc (by simp) _).alloc (by simp) _).trans (hb1.mono (by simp; omega))
  have s1 := hT1.lt
  obtain ⟨a0, a1, a2, a3, a4, a5, b0, b1, b2, b3, b4, b5⟩ := hS1.sp
  clear hS hT
  go_wp2_with fail
  refine (spput_any c t x m k e _).mono ?_
  rintro r w2 ⟨va, rfl, hva, hb2⟩
  rw [H1.out]
  have hS2 := hS1.later hb2
  have hT2 := hT1.later hb2
  replace hb2 := hb1.trans (hb2.mono hb1.size)
  clear hS1 hT1 hb1 s1 a0 a1 a2 a3 a4 a5 b0 b1 b2 b3 b4 b5
  obtain ⟨d0, d1, d2, d3, d4, d5, g0, g1, g2, g3, g4, g5⟩ := hT2.sp
  go_wp2_with fail
  refine (spput_any c' t' x' m' k' e' _).mono ?_
  rintro r w3 ⟨vb, rfl, hvb, hb3⟩
  rw [H2.out]
  have hS3 := hS2.later hb3
  have hT3 := hT2.later hb3
  have hva3 := hva.later hb3
  replace hb3 := hb2.trans (hb3.mono hb2.size)
  clear hS2 hT2 hb2 hva d0 d1 d2 d3 d4 d5 g0 g1 g2 g3 g4 g5
  go_wp2_with fail
  go_ret
  exact ⟨rfl, hb3⟩

set_option maxHeartbeats 1000000 in
set_option maxRecDepth 100000 in
theorem one_yes (c t x m k e c' t' x' m' k' e' : Int) (w : World) (h1 : maySp ⟨c, t, x, m, k, e⟩ = true) (h2 : maySp ⟨c', t', x', m', k', e'⟩ = true) :
    Calls Try.prog 6 #[.agg #[.int .i64 c, .int .i64 t, .int .i64 x, .int .i64 m, .int .i64 k, .int .i64 e], .agg #[.int .i64 c', .int .i64 t', .int .i64 x', .int .i64 m', .int .i64 k', .int .i64 e']] w fun r w' => r = .returned (.bool true) ∧ Below w.heap.size w w' := by
  have hX := one_facts h1
  have HX : Hid (strS ⟨c, t, x, m, k, e⟩ t t = ⟨c, t, t, m, k, e⟩ ∧ stB ⟨c, t, x, m, k, e⟩ t t = true) := ⟨by unfold strS; rw [h1]; exact knS_yes hX, by unfold stB; rw [h1]; exact (Bool.true_and _).trans hX⟩
  have HL : Hid (byS ⟨c, t, x, m, k, e⟩ = lst ⟨c, t, x, m, k, e⟩ ∧ byS ⟨c', t', x', m', k', e'⟩ = lst ⟨c', t', x', m', k', e'⟩) := ⟨byS_yes h1, byS_yes h2⟩
  have H1 : Hid (maySp ⟨c, t, x, m, k, e⟩ = true) := h1
  have H2 : Hid (maySp ⟨c', t', x', m', k', e'⟩ = true) := h2
  clear h1 h2 hX
  have hS : Six ((w.alloc (.cells #[.int .i64 c, .int .i64 t, .int .i64 x, .int .i64 m, .int .i64 k, .int .i64 e] 23)).alloc (.cells #[.int .i64 c', .int .i64 t', .int .i64 x', .int .i64 m', .int .i64 k', .int .i64 e'] 23)) w.heap.size (Sp.at ⟨c, t, x, m, k, e⟩) := (Six.new w ⟨c, t, x, m, k, e⟩).later ((Below.refl _ _).alloc (Nat.le_refl _) _)
  have hT : Six ((w.alloc (.cells #[.int .i64 c, .int .i64 t, .int .i64 x, .int .i64 m, .int .i64 k, .int .i64 e] 23)).alloc (.cells #[.int .i64 c', .int .i64 t', .int .i64 x', .int .i64 m', .int .i64 k', .int .i64 e'] 23)) (w.heap.size + 1) (Sp.at ⟨c', t', x', m', k', e'⟩) := by have := Six.new (w.alloc (.cells #[.int .i64 c, .int .i64 t, .int .i64 x, .int .i64 m, .int .i64 k, .int .i64 e] 23)) ⟨c', t', x', m', k', e'⟩; simp only [World.size_alloc] at this; exact this
  go_enter Try.func6, Try.ntmps6
  go_wp2_with fail
  refine (awake5_any _).mono ?_
  rintro r w1 ⟨rfl, hb1⟩
  have hS1 := hS.later hb1
  have hT1 := hT.later hb1
  replace hb1 : Below w.heap.size w w1 := (((Below.refl _ _).alloc (by simp) _).alloc (by simp) _).trans (hb1.mono (by simp; omega))
  have s1 := hT1.lt
  obtain ⟨a0, a1, a2, a3, a4, a5, b0, b1, b2, b3, b4, b5⟩ := hS1.sp
  clear hS hT
  go_wp2_with fail
  refine (spput_any c t x m k e _).mono ?_
  rintro r w2 ⟨va, rfl, hva, hb2⟩
  rw [H1.out]
  have hS2 := hS1.later hb2
  have hT2 := hT1.later hb2
  replace hb2 := hb1.trans (hb2.mono hb1.size)
  clear hS1 hT1 hb1 s1 a0 a1 a2 a3 a4 a5 b0 b1 b2 b3 b4 b5
  obtain ⟨d0, d1, d2, d3, d4, d5, g0, g1, g2, g3, g4, g5⟩ := hT2.sp
  go_wp2_with fail
  refine (spput_any c' t' x' m' k' e' _).mono ?_
  rintro r w3 ⟨vb, rfl, hvb, hb3⟩
  rw [H2.out]
  have hS3 := hS2.later hb3
  have hT3 := hT2.later hb3
  have hva3 := hva.later hb3
  replace hb3 := hb2.trans (hb3.mono hb2.size)
  clear hS2 hT2 hb2 hva d0 d1 d2 d3 d4 d5 g0 g1 g2 g3 g4 g5
  rw [HL.out.1] at hva3
  rw [HL.out.2] at hvb
  have s3 := hT3.lt
  obtain ⟨a0, a1, a2, a3, a4, a5, b0, b1, b2, b3, b4, b5⟩ := hS3.sp
  clear b0 b1 b2 b3 b4 b5
  go_wp2_with fail
  refine (stretch_any c t x m k e t t _).mono ?_
  rintro r w4 ⟨rfl, hb4⟩
  rw [HX.out.1, HX.out.2]
  have hS4 := hS3.later hb4
  have hT4 := hT3.later hb4
  have hva4 := hva3.later hb4
  have hvb4 := hvb.later hb4
  replace hb4 := hb3.trans (hb4.mono hb3.size)
  clear hS3 hT3 hva3 hvb hb3 s3 a0 a1 a2 a3 a4 a5
  unfold spV
  go_wp2_with fail
  have q3 := (Below.refl w4.heap.size w4).alloc (Nat.le_refl _) (.cells #[.int .i64 c, .int .i64 t, .int .i64 t, .int .i64 m, .int .i64 k, .int .i64 e] 23)
  have k1 := hS4.later q3
  have k2 := hT4.later q3
  have k3 : Six (w4.alloc (.cells #[.int .i64 c, .int .i64 t, .int .i64 t, .int .i64 m, .int .i64 k, .int .i64 e] 23)) w4.heap.size (Sp.at ⟨c, t, t, m, k, e⟩) := Six.new w4 ⟨c, t, t, m, k, e⟩
  have HV : Hid (Bys (w4.alloc (.cells #[.int .i64 c, .int .i64 t, .int .i64 t, .int .i64 m, .int .i64 k, .int .i64 e] 23)) va (lst ⟨c, t, x, m, k, e⟩) ∧ Bys (w4.alloc (.cells #[.int .i64 c, .int .i64 t, .int .i64 t, .int .i64 m, .int .i64 k, .int .i64 e] 23)) vb (lst ⟨c', t', x', m', k', e'⟩)) := ⟨hva4.later q3, hvb4.later q3⟩
  have HE : Hid (Below w.heap.size w (w4.alloc (.cells #[.int .i64 c, .int .i64 t, .int .i64 t, .int .i64 m, .int .i64 k, .int .i64 e] 23))) := hb4.trans (q3.mono hb4.size)
  clear hS4 hT4 hva4 hvb4 hb4 q3
  generalize hW : w4.alloc (.cells #[.int .i64 c, .int .i64 t, .int .i64 t, .int .i64 m, .int .i64 k, .int .i64 e] 23) = W at *
  clear hW
  have MK : Hid (∀ w' : World, Below W.heap.size W w' → (w'.cell? ⟨w.heap.size, 0, none⟩ = some (.int .i64 c) ∧ w'.cell? ⟨w.heap.size, 1, none⟩ = some (.int .i64 t) ∧ w'.cell? ⟨w.heap.size, 2, none⟩ = some (.int .i64 x) ∧ w'.cell? ⟨w.heap.size, 3, none⟩ = some (.int .i64 m) ∧ w'.cell? ⟨w.heap.size, 4, none⟩ = some (.int .i64 k) ∧ w'.cell? ⟨w.heap.size, 5, none⟩ = some (.int .i64 e) ∧ w'.cell? ⟨w.heap.size + 1, 0, none⟩ = some (.int .i64 c') ∧ w'.cell? ⟨w.heap.size + 1, 1, none⟩ = some (.int .i64 t') ∧ w'.cell? ⟨w.heap.size + 1, 2, none⟩ = some (.int .i64 x') ∧ w'.cell? ⟨w.heap.size + 1, 3, none⟩ = some (.int .i64 m') ∧ w'.cell? ⟨w.heap.size + 1, 4, none⟩ = some (.int .i64 k') ∧ w'.cell? ⟨w.heap.size + 1, 5, none⟩ = some (.int .i64 e') ∧ w'.cell? ⟨w4.heap.size, 0, none⟩ = some (.int .i64 c) ∧ w'.cell? ⟨w4.heap.size, 1, none⟩ = some (.int .i64 t) ∧ w'.cell? ⟨w4.heap.size, 2, none⟩ = some (.int .i64 t) ∧ w'.cell? ⟨w4.heap.size, 3, none⟩ = some (.int .i64 m) ∧ w'.cell? ⟨w4.heap.size, 4, none⟩ = some (.int .i64 k) ∧ w'.cell? ⟨w4.heap.size, 5, none⟩ = some (.int .i64 e)) ∧ Below W.heap.size W w') := by
    intro w' hb
    obtain ⟨x0, x1, x2, x3, x4, x5, _⟩ := (k1.later hb).sp
    obtain ⟨y0, y1, y2, y3, y4, y5, _⟩ := (k2.later hb).sp
    obtain ⟨z0, z1, z2, z3, z4, z5, _⟩ := (k3.later hb).sp
    exact ⟨⟨x0, x1, x2, x3, x4, x5, y0, y1, y2, y3, y4, y5, z0, z1, z2, z3, z4, z5⟩, hb⟩
  clear k1 k2 k3
  have s5 := HE.out.size
  have hE := sp_eql c t x m k e c' t' x' m' k' e'
  have HQ : Hid (sameB (lst ⟨c, t, x, m, k, e⟩) (lst ⟨c', t', x', m', k', e'⟩) = spB c t x m k e c' t' x' m' k' e') := lst_same c t x m k e c' t' x' m' k' e'
  generalize spB c t x m k e c' t' x' m' k' e' = q at *
  cases q
  all_goals
    go_region_held3 (fun w' => (w'.cell? ⟨w.heap.size, 0, none⟩ = some (.int .i64 c) ∧ w'.cell? ⟨w.heap.size, 1, none⟩ = some (.int .i64 t) ∧ w'.cell? ⟨w.heap.size, 2, none⟩ = some (.int .i64 x) ∧ w'.cell? ⟨w.heap.size, 3, none⟩ = some (.int .i64 m) ∧ w'.cell? ⟨w.heap.size, 4, none⟩ = some (.int .i64 k) ∧ w'.cell? ⟨w.heap.size, 5, none⟩ = some (.int .i64 e) ∧ w'.cell? ⟨w.heap.size + 1, 0, none⟩ = some (.int .i64 c') ∧ w'.cell? ⟨w.heap.size + 1, 1, none⟩ = some (.int .i64 t') ∧ w'.cell? ⟨w.heap.size + 1, 2, none⟩ = some (.int .i64 x') ∧ w'.cell? ⟨w.heap.size + 1, 3, none⟩ = some (.int .i64 m') ∧ w'.cell? ⟨w.heap.size + 1, 4, none⟩ = some (.int .i64 k') ∧ w'.cell? ⟨w.heap.size + 1, 5, none⟩ = some (.int .i64 e') ∧ w'.cell? ⟨w4.heap.size, 0, none⟩ = some (.int .i64 c) ∧ w'.cell? ⟨w4.heap.size, 1, none⟩ = some (.int .i64 t) ∧ w'.cell? ⟨w4.heap.size, 2, none⟩ = some (.int .i64 t) ∧ w'.cell? ⟨w4.heap.size, 3, none⟩ = some (.int .i64 m) ∧ w'.cell? ⟨w4.heap.size, 4, none⟩ = some (.int .i64 k) ∧ w'.cell? ⟨w4.heap.size, 5, none⟩ = some (.int .i64 e)) ∧ Below W.heap.size W w')
      (first | exact MK.out _ (bstep (by assumption) (sBel (by assumption))) | exact MK.out _ (Below.refl _ _).drew)
      (first | (go_at_call 17; refine (bytes_any (lst ⟨c, t, x, m, k, e⟩) (lst ⟨c', t', x', m', k', e'⟩) va vb _ (HV.out.1.later (sBel (by assumption))) (HV.out.2.later (sBel (by assumption))) (by simp [lst])).mono ?_; rintro r w6 ⟨rfl, hb6⟩; rw [HQ.out]))
    all_goals
      go_wp2
      go_ret
      exact ⟨rfl, HE.out.trans ((sBel (by assumption)).mono s5)⟩

theorem law_one (c t x m k e c' t' x' m' k' e' : Int) (w : World) :
    Calls Try.prog 6 #[.agg #[.int .i64 c, .int .i64 t, .int .i64 x, .int .i64 m, .int .i64 k, .int .i64 e], .agg #[.int .i64 c', .int .i64 t', .int .i64 x', .int .i64 m', .int .i64 k', .int .i64 e']] w fun r w' => r = .returned (.bool true) ∧ Below w.heap.size w w' := by
  cases h1 : maySp ⟨c, t, x, m, k, e⟩
  · exact one_no c t x m k e c' t' x' m' k' e' w h1
  · cases h2 : maySp ⟨c', t', x', m', k', e'⟩
    · exact one_no2 c t x m k e c' t' x' m' k' e' w h1 h2
    · exact one_yes c t x m k e c' t' x' m' k' e' w h1 h2
end Go.Proofs.Ytpnmdpffdeebmaa
