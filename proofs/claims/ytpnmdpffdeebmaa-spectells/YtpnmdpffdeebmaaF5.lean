/- What the statement SpecTells comes to. -/
import Derived.Test.YtpnmdpffdeebmaaF1
import Derived.Test.YtpnmdpffdeebmaaE10
import Derived.Test.YtpnmdpffdeebmaaE11
namespace Go.Proofs.Ytpnmdpffdeebmaa
open Go.RowKit

set_option maxHeartbeats 1000000 in
set_option maxRecDepth 100000 in
theorem tells_long (c t x m k e : Int) (ks : List Int) (v : Value) (t' x' : Int) (w : World) (hk : Bys w v ks) (hl : 100 < ks.length) :
    Calls Try.prog 3 #[.agg #[.int .i64 c, .int .i64 t, .int .i64 x, .int .i64 m, .int .i64 k, .int .i64 e], v, .int .i64 t', .int .i64 x'] w fun r w' => r = .returned (.bool true) ∧ Below w.heap.size w w' := by
  have hS : Six (w.alloc (.cells #[.int .i64 c, .int .i64 t, .int .i64 x, .int .i64 m, .int .i64 k, .int .i64 e] 23)) w.heap.size (Sp.at ⟨c, t, x, m, k, e⟩) := Six.new w ⟨c, t, x, m, k, e⟩
  have HK : Hid (Bys w v ks) := hk
  obtain ⟨a, cap, rfl, h1, h2, h3, h4, h5⟩ := hk
  clear h3 h4 h5
  have hl' : (100 : Int) < ks.length := by omega
  go_enter Try.func3, Try.ntmps3
  go_wp2_with fail
  refine (awake5_any _).mono ?_
  rintro r w1 ⟨rfl, hb1⟩
  have hS1 := hS.later hb1
  replace hb1 : Below w.heap.size w w1 := ((Below.refl _ _).alloc (by simp) _).trans (hb1.mono (by simp))
  have s1 := hS1.lt
  obtain ⟨a0, a1, a2, a3, a4, a5, b0, b1, b2, b3, b4, b5⟩ := hS1.sp
  clear hS
  go_wp2_with fail
  go_ret
  exact ⟨rfl, hb1⟩

theorem byS_len (s : Sp) : (byS s).length ≤ 1000 := by
  unfold byS; cases maySp s <;> simp [lst]

set_option maxHeartbeats 1000000 in
set_option maxRecDepth 100000 in
theorem tells_in (c t x m k e : Int) (ks : List Int) (v : Value) (t' x' : Int) (w : World) (hk : Bys w v ks) (hl : ks.length ≤ 100) :
    Calls Try.prog 3 #[.agg #[.int .i64 c, .int .i64 t, .int .i64 x, .int .i64 m, .int .i64 k, .int .i64 e], v, .int .i64 t', .int .i64 x'] w fun r w' => r = .returned (.bool true) ∧ Below w.heap.size w w' := by
  have hS : Six (w.alloc (.cells #[.int .i64 c, .int .i64 t, .int .i64 x, .int .i64 m, .int .i64 k, .int .i64 e] 23)) w.heap.size (Sp.at ⟨c, t, x, m, k, e⟩) := Six.new w ⟨c, t, x, m, k, e⟩
  have HK : Hid (Bys w v ks) := hk
  obtain ⟨a, cap, rfl, h1, h2, h3, h4, h5⟩ := hk
  clear h3 h4 h5
  obtain ⟨q1, hq1⟩ : ∃ q, maySp ⟨c, t, x, m, k, e⟩ = q := ⟨_, rfl⟩
  obtain ⟨q2, hq2⟩ : ∃ q, maySp (gotS ks) = q := ⟨_, rfl⟩
  obtain ⟨q3, hq3⟩ : ∃ q, stB ⟨c, t, x, m, k, e⟩ t' x' = q := ⟨_, rfl⟩
  obtain ⟨⟨g0, g1, g2, g3, g4, g5⟩, hgs⟩ : ∃ q, knS (gotS ks) = q := ⟨_, rfl⟩
  obtain ⟨⟨h0, h1, h2, h3, h4, h5⟩, hhs⟩ : ∃ q, strS ⟨c, t, x, m, k, e⟩ t' x' = q := ⟨_, rfl⟩
  have H1 : Hid (maySp ⟨c, t, x, m, k, e⟩ = q1) := hq1
  have H2 : Hid (knS (gotS ks) = ⟨g0, g1, g2, g3, g4, g5⟩ ∧ maySp (gotS ks) = q2) := ⟨hgs, hq2⟩
  have H3 : Hid (strS ⟨c, t, x, m, k, e⟩ t' x' = ⟨h0, h1, h2, h3, h4, h5⟩ ∧ stB ⟨c, t, x, m, k, e⟩ t' x' = q3) := ⟨hhs, hq3⟩
  clear hq1 hq2 hq3 hgs hhs
  go_enter Try.func3, Try.ntmps3
  go_wp2_with fail
  refine (awake5_any _).mono ?_
  rintro r w1 ⟨rfl, hb1⟩
  have hS1 := hS.later hb1
  replace hb1 : Below w.heap.size w w1 := ((Below.refl _ _).alloc (by simp) _).trans (hb1.mono (by simp))
  have s1 := hS1.lt
  obtain ⟨a0, a1, a2, a3, a4, a5, b0, b1, b2, b3, b4, b5⟩ := hS1.sp
  clear hS
  clear b0 b1 b2 b3 b4 b5
  go_wp2_with fail
  refine (spput_any c t x m k e _).mono ?_
  rintro r w2 ⟨va, rfl, hva, hb2⟩
  rw [H1.out]
  have hS2 := hS1.later hb2
  replace hb2 := hb1.trans (hb2.mono hb1.size)
  clear hS1 hb1 s1 a0 a1 a2 a3 a4 a5
  obtain ⟨a0, a1, a2, a3, a4, a5, b0, b1, b2, b3, b4, b5⟩ := hS2.sp
  clear b0 b1 b2 b3 b4 b5
  have s2 := hS2.lt
  go_wp2_with fail
  refine (refPut_any c t x m k e _).mono ?_
  rintro r w3 ⟨vb, rfl, hvb, hb3⟩
  rw [H1.out]
  have hS3 := hS2.later hb3
  have hva3 := hva.later hb3
  replace hb3 := hb2.trans (hb3.mono hb2.size)
  clear hS2 hb2 s2 hva a0 a1 a2 a3 a4 a5
  go_wp2_with fail
  refine (spget_any ks _ _ (HK.out.later hb3)).mono ?_
  rintro r w4 ⟨rfl, hb4⟩
  rw [H2.out.1, H2.out.2]
  unfold spV
  have q4 := (Below.refl w4.heap.size w4).alloc (Nat.le_refl _) (.cells #[.int .i64 g0, .int .i64 g1, .int .i64 g2, .int .i64 g3, .int .i64 g4, .int .i64 g5] 23)
  have hS4 := (hS3.later hb4).later q4
  have hva4 := (hva3.later hb4).later q4
  have hvb4 := (hvb.later hb4).later q4
  have hX4 : Six (w4.alloc (.cells #[.int .i64 g0, .int .i64 g1, .int .i64 g2, .int .i64 g3, .int .i64 g4, .int .i64 g5] 23)) w4.heap.size (Sp.at ⟨g0, g1, g2, g3, g4, g5⟩) := Six.new w4 ⟨g0, g1, g2, g3, g4, g5⟩
  replace hb4 := (hb3.trans (hb4.mono hb3.size)).trans (q4.mono (hb3.trans (hb4.mono hb3.size)).size)
  clear hS3 hb3 hva3 hvb q4
  go_wp2_with fail
  refine (refGet_any ks _ _ (HK.out.later hb4)).mono ?_
  rintro r w5 ⟨rfl, hb5⟩
  rw [H2.out.1, H2.out.2]
  unfold spV
  have q5 := (Below.refl w5.heap.size w5).alloc (Nat.le_refl _) (.cells #[.int .i64 g0, .int .i64 g1, .int .i64 g2, .int .i64 g3, .int .i64 g4, .int .i64 g5] 23)
  have z5 : w.heap.size < w5.heap.size := (hS4.later hb5).lt
  have hS5 := (hS4.later hb5).later q5
  have hva5 := (hva4.later hb5).later q5
  have hvb5 := (hvb4.later hb5).later q5
  have hX5 := (hX4.later hb5).later q5
  have hY5 : Six (w5.alloc (.cells #[.int .i64 g0, .int .i64 g1, .int .i64 g2, .int .i64 g3, .int .i64 g4, .int .i64 g5] 23)) w5.heap.size (Sp.at ⟨g0, g1, g2, g3, g4, g5⟩) := Six.new w5 ⟨g0, g1, g2, g3, g4, g5⟩
  replace hb5 := hb4.trans (hb5.mono hb4.size)
  replace hb5 := hb5.trans (q5.mono hb5.size)
  clear hS4 hb4 hva4 hvb4 hX4 q5
  obtain ⟨a0, a1, a2, a3, a4, a5, b0, b1, b2, b3, b4, b5⟩ := hS5.sp
  clear b0 b1 b2 b3 b4 b5
  go_wp2_with fail
  refine (stretch_any c t x m k e t' x' _).mono ?_
  rintro r w6 ⟨rfl, hb6⟩
  rw [H3.out.1, H3.out.2]
  unfold spV
  have q6 := (Below.refl w6.heap.size w6).alloc (Nat.le_refl _) (.cells #[.int .i64 h0, .int .i64 h1, .int .i64 h2, .int .i64 h3, .int .i64 h4, .int .i64 h5] 23)
  have z6 : w.heap.size < w6.heap.size := (hS5.later hb6).lt
  have hS6 := (hS5.later hb6).later q6
  have hva6 := (hva5.later hb6).later q6
  have hvb6 := (hvb5.later hb6).later q6
  have hX6 := (hX5.later hb6).later q6
  have hY6 := (hY5.later hb6).later q6
  have hU6 : Six (w6.alloc (.cells #[.int .i64 h0, .int .i64 h1, .int .i64 h2, .int .i64 h3, .int .i64 h4, .int .i64 h5] 23)) w6.heap.size (Sp.at ⟨h0, h1, h2, h3, h4, h5⟩) := Six.new w6 ⟨h0, h1, h2, h3, h4, h5⟩
  replace hb6 := hb5.trans (hb6.mono hb5.size)
  replace hb6 := hb6.trans (q6.mono hb6.size)
  clear hS5 hb5 hva5 hvb5 hX5 hY5 q6 z5 a0 a1 a2 a3 a4 a5
  obtain ⟨a0, a1, a2, a3, a4, a5, b0, b1, b2, b3, b4, b5⟩ := hS6.sp
  clear b0 b1 b2 b3 b4 b5
  go_wp2_with fail
  refine (refStretch_any c t x m k e t' x' _).mono ?_
  rintro r w7 ⟨rfl, hb7⟩
  rw [H3.out.1, H3.out.2]
  unfold spV
  have q7 := (Below.refl w7.heap.size w7).alloc (Nat.le_refl _) (.cells #[.int .i64 h0, .int .i64 h1, .int .i64 h2, .int .i64 h3, .int .i64 h4, .int .i64 h5] 23)
  have k1 := (hS6.later hb7).later q7
  have hva7 := (hva6.later hb7).later q7
  have hvb7 := (hvb6.later hb7).later q7
  have k2 := (hX6.later hb7).later q7
  have k3 := (hY6.later hb7).later q7
  have k4 := (hU6.later hb7).later q7
  have k5 : Six (w7.alloc (.cells #[.int .i64 h0, .int .i64 h1, .int .i64 h2, .int .i64 h3, .int .i64 h4, .int .i64 h5] 23)) w7.heap.size (Sp.at ⟨h0, h1, h2, h3, h4, h5⟩) := Six.new w7 ⟨h0, h1, h2, h3, h4, h5⟩
  replace hb7 := hb6.trans (hb7.mono hb6.size)
  replace hb7 := hb7.trans (q7.mono hb7.size)
  clear hS6 hb6 hva6 hvb6 hX6 hY6 hU6 q7 z6 a0 a1 a2 a3 a4 a5
  go_wp2_with fail
  generalize hW : w7.alloc (.cells #[.int .i64 h0, .int .i64 h1, .int .i64 h2, .int .i64 h3, .int .i64 h4, .int .i64 h5] 23) = W at *
  clear hW
  have HV : Hid (Bys W va (byS ⟨c, t, x, m, k, e⟩) ∧ Bys W vb (byS ⟨c, t, x, m, k, e⟩)) := ⟨hva7, hvb7⟩
  have HE : Hid (Below w.heap.size w W) := hb7
  have MK : Hid (∀ w' : World, Below W.heap.size W w' → (w'.cell? ⟨w.heap.size, 0, none⟩ = some (.int .i64 c) ∧ w'.cell? ⟨w.heap.size, 1, none⟩ = some (.int .i64 t) ∧ w'.cell? ⟨w.heap.size, 2, none⟩ = some (.int .i64 x) ∧ w'.cell? ⟨w.heap.size, 3, none⟩ = some (.int .i64 m) ∧ w'.cell? ⟨w.heap.size, 4, none⟩ = some (.int .i64 k) ∧ w'.cell? ⟨w.heap.size, 5, none⟩ = some (.int .i64 e) ∧ w'.cell? ⟨w4.heap.size, 0, none⟩ = some (.int .i64 g0) ∧ w'.cell? ⟨w4.heap.size, 1, none⟩ = some (.int .i64 g1) ∧ w'.cell? ⟨w4.heap.size, 2, none⟩ = some (.int .i64 g2) ∧ w'.cell? ⟨w4.heap.size, 3, none⟩ = some (.int .i64 g3) ∧ w'.cell? ⟨w4.heap.size, 4, none⟩ = some (.int .i64 g4) ∧ w'.cell? ⟨w4.heap.size, 5, none⟩ = some (.int .i64 g5) ∧ w'.cell? ⟨w5.heap.size, 0, none⟩ = some (.int .i64 g0) ∧ w'.cell? ⟨w5.heap.size, 1, none⟩ = some (.int .i64 g1) ∧ w'.cell? ⟨w5.heap.size, 2, none⟩ = some (.int .i64 g2) ∧ w'.cell? ⟨w5.heap.size, 3, none⟩ = some (.int .i64 g3) ∧ w'.cell? ⟨w5.heap.size, 4, none⟩ = some (.int .i64 g4) ∧ w'.cell? ⟨w5.heap.size, 5, none⟩ = some (.int .i64 g5) ∧ w'.cell? ⟨w6.heap.size, 0, none⟩ = some (.int .i64 h0) ∧ w'.cell? ⟨w6.heap.size, 1, none⟩ = some (.int .i64 h1) ∧ w'.cell? ⟨w6.heap.size, 2, none⟩ = some (.int .i64 h2) ∧ w'.cell? ⟨w6.heap.size, 3, none⟩ = some (.int .i64 h3) ∧ w'.cell? ⟨w6.heap.size, 4, none⟩ = some (.int .i64 h4) ∧ w'.cell? ⟨w6.heap.size, 5, none⟩ = some (.int .i64 h5) ∧ w'.cell? ⟨w7.heap.size, 0, none⟩ = some (.int .i64 h0) ∧ w'.cell? ⟨w7.heap.size, 1, none⟩ = some (.int .i64 h1) ∧ w'.cell? ⟨w7.heap.size, 2, none⟩ = some (.int .i64 h2) ∧ w'.cell? ⟨w7.heap.size, 3, none⟩ = some (.int .i64 h3) ∧ w'.cell? ⟨w7.heap.size, 4, none⟩ = some (.int .i64 h4) ∧ w'.cell? ⟨w7.heap.size, 5, none⟩ = some (.int .i64 h5)) ∧ Below W.heap.size W w') := by
    intro w' hb
    obtain ⟨x0, x1, x2, x3, x4, x5, _⟩ := (k1.later hb).sp
    obtain ⟨y0, y1, y2, y3, y4, y5, _⟩ := (k2.later hb).sp
    obtain ⟨z0, z1, z2, z3, z4, z5, _⟩ := (k3.later hb).sp
    obtain ⟨u0, u1, u2, u3, u4, u5, _⟩ := (k4.later hb).sp
    obtain ⟨v0, v1, v2, v3, v4, v5, _⟩ := (k5.later hb).sp
    exact ⟨⟨x0, x1, x2, x3, x4, x5, y0, y1, y2, y3, y4, y5, z0, z1, z2, z3, z4, z5, u0, u1, u2, u3, u4, u5, v0, v1, v2, v3, v4, v5⟩, hb⟩
  clear k1 k2 k3 k4 k5 hva7 hvb7 hb7
  have s5 := HE.out.size
  have hE1 : ∀ w, (binOp .eql 23 (.agg #[.int .i64 g0, .int .i64 g1, .int .i64 g2, .int .i64 g3, .int .i64 g4, .int .i64 g5]) (.agg #[.int .i64 g0, .int .i64 g1, .int .i64 g2, .int .i64 g3, .int .i64 g4, .int .i64 g5])).run Try.prog w = .ok (.bool true) w := fun w => by rw [sp_eql, spB_self]
  have hE2 : ∀ w, (binOp .eql 23 (.agg #[.int .i64 h0, .int .i64 h1, .int .i64 h2, .int .i64 h3, .int .i64 h4, .int .i64 h5]) (.agg #[.int .i64 h0, .int .i64 h1, .int .i64 h2, .int .i64 h3, .int .i64 h4, .int .i64 h5])).run Try.prog w = .ok (.bool true) w := fun w => by rw [sp_eql, spB_self]
  have HQ : Hid (sameB (byS ⟨c, t, x, m, k, e⟩) (byS ⟨c, t, x, m, k, e⟩) = true) := decide_eq_true rfl
  have HN : Hid ((byS ⟨c, t, x, m, k, e⟩).length ≤ 1000) := byS_len _
  go_region_held3 (fun w' => (w'.cell? ⟨w.heap.size, 0, none⟩ = some (.int .i64 c) ∧ w'.cell? ⟨w.heap.size, 1, none⟩ = some (.int .i64 t) ∧ w'.cell? ⟨w.heap.size, 2, none⟩ = some (.int .i64 x) ∧ w'.cell? ⟨w.heap.size, 3, none⟩ = some (.int .i64 m) ∧ w'.cell? ⟨w.heap.size, 4, none⟩ = some (.int .i64 k) ∧ w'.cell? ⟨w.heap.size, 5, none⟩ = some (.int .i64 e) ∧ w'.cell? ⟨w4.heap.size, 0, none⟩ = some (.int .i64 g0) ∧ w'.cell? ⟨w4.heap.size, 1, none⟩ = some (.int .i64 g1) ∧ w'.cell? ⟨w4.heap.size, 2, none⟩ = some (.int .i64 g2) ∧ w'.cell? ⟨w4.heap.size, 3, none⟩ = some (.int .i64 g3) ∧ w'.cell? ⟨w4.heap.size, 4, none⟩ = some (.int .i64 g4) ∧ w'.cell? ⟨w4.heap.size, 5, none⟩ = some (.int .i64 g5) ∧ w'.cell? ⟨w5.heap.size, 0, none⟩ = some (.int .i64 g0) ∧ w'.cell? ⟨w5.heap.size, 1, none⟩ = some (.int .i64 g1) ∧ w'.cell? ⟨w5.heap.size, 2, none⟩ = some (.int .i64 g2) ∧ w'.cell? ⟨w5.heap.size, 3, none⟩ = some (.int .i64 g3) ∧ w'.cell? ⟨w5.heap.size, 4, none⟩ = some (.int .i64 g4) ∧ w'.cell? ⟨w5.heap.size, 5, none⟩ = some (.int .i64 g5) ∧ w'.cell? ⟨w6.heap.size, 0, none⟩ = some (.int .i64 h0) ∧ w'.cell? ⟨w6.heap.size, 1, none⟩ = some (.int .i64 h1) ∧ w'.cell? ⟨w6.heap.size, 2, none⟩ = some (.int .i64 h2) ∧ w'.cell? ⟨w6.heap.size, 3, none⟩ = some (.int .i64 h3) ∧ w'.cell? ⟨w6.heap.size, 4, none⟩ = some (.int .i64 h4) ∧ w'.cell? ⟨w6.heap.size, 5, none⟩ = some (.int .i64 h5) ∧ w'.cell? ⟨w7.heap.size, 0, none⟩ = some (.int .i64 h0) ∧ w'.cell? ⟨w7.heap.size, 1, none⟩ = some (.int .i64 h1) ∧ w'.cell? ⟨w7.heap.size, 2, none⟩ = some (.int .i64 h2) ∧ w'.cell? ⟨w7.heap.size, 3, none⟩ = some (.int .i64 h3) ∧ w'.cell? ⟨w7.heap.size, 4, none⟩ = some (.int .i64 h4) ∧ w'.cell? ⟨w7.heap.size, 5, none⟩ = some (.int .i64 h5)) ∧ Below W.heap.size W w')
    (first | exact MK.out _ (bstep (by assumption) (sBel (by assumption))) | exact MK.out _ (Below.refl _ _).drew)
    (first
    | (go_at_call 15; refine (spmay_any c t x m k e _).mono ?_; rintro r w8 ⟨rfl, hb8⟩; rw [H1.out])
    | (go_at_call 16; refine (refSp_any c t x m k e _).mono ?_; rintro r w9 ⟨rfl, hb9⟩; rw [H1.out])
    | (go_at_call 17; refine (bytes_any (byS ⟨c, t, x, m, k, e⟩) (byS ⟨c, t, x, m, k, e⟩) va vb _ (HV.out.1.later (sBel (by assumption))) (HV.out.2.later (sBel (by assumption))) HN.out).mono ?_; rintro r w10 ⟨rfl, hb10⟩; rw [HQ.out]))
  all_goals
    go_wp2
    go_ret
    exact ⟨by first | rfl | exact ret_b (by simp), HE.out.trans ((sBel (by assumption)).mono s5)⟩

theorem law_sptells (c t x m k e : Int) (ks : List Int) (v : Value) (t' x' : Int) (w : World) (hk : Bys w v ks) :
    Calls Try.prog 3 #[.agg #[.int .i64 c, .int .i64 t, .int .i64 x, .int .i64 m, .int .i64 k, .int .i64 e], v, .int .i64 t', .int .i64 x'] w fun r w' => r = .returned (.bool true) ∧ Below w.heap.size w w' := by
  by_cases hl : ks.length ≤ 100
  · exact tells_in c t x m k e ks v t' x' w hk hl
  · exact tells_long c t x m k e ks v t' x' w hk (by omega)
end Go.Proofs.Ytpnmdpffdeebmaa
