import Derived.Test.YteibaiflljcghaaDoorD10
/- What the statement DemandSteps comes to. -/
namespace Go.Proofs.YteibaiflljcghaaDoor
open Go.RowKit Go.Shelf

theorem kn_may1 {f : Fx} (h : may9 1 (fun _ => f) = true) : knB f = true := knAll_of (may9_facts h).2.1 (i := 0) (by omega)
theorem hor_one {f : Fx} (h : may9 1 (fun _ => f) = true) : hor9 1 (fun _ => f) = 16 * f.c := by
  rw [hor9_yes h]
  show 16 * (0 + f.c) = 16 * f.c
  omega
/-- One time more: what must be done grows at whole periods alone, by one job at most. -/
theorem of_step {f : Fx} {n : Int} (h : knB f = true) (n0 : 0 ≤ n) (n1 : n ≤ 1000000) :
    ofV9 f n ≤ ofV9 f (n + 1) ∧ ofV9 f (n + 1) - ofV9 f n ≤ f.c ∧ (ofV9 f (n + 1) ≠ ofV9 f n → (n + 1) % f.p = 0) ∧ (n < f.p → ofV9 f n = 0) ∧ ofV9 f n % f.c = 0 ∧ ofV9 f n ≤ n / f.p * f.c := by
  have e1 := of9_yes h n0 (by omega)
  have e2 := of9_yes h (show 0 ≤ n + 1 by omega) (by omega)
  obtain ⟨_, c0, c1, c2, p0, p1, x1, m0, m1, k1⟩ := kn_facts h
  have hm := of_mono (f := f) n0 (show n ≤ n + 1 by omega) (by omega)
  have hp : 0 < f.p := by omega
  have hq0 : 0 ≤ n / f.p := Int.ediv_nonneg n0 (by omega)
  have hs := du_self m0 m1 hq0
  refine ⟨hm, ?_, ?_, ?_, ?_, ?_⟩
  · rw [e1, e2]
    have h1 : (n + 1) / f.p ≤ n / f.p + 1 := by
      have : (n + 1) / f.p ≤ (n + 1 * f.p) / f.p := Int.ediv_le_ediv hp (by omega)
      rw [Int.add_mul_ediv_right _ _ (by omega)] at this
      exact this
    have h2 := du_mono m0 m1 k1 h1
    have h3 := (du_add (a := n / f.p) (b := 1) m0 m1 k1).2
    have h4 := du_self (n := 1) m0 m1 (by omega)
    have h5 : f.c * du f.m f.k ((n + 1) / f.p) ≤ f.c * (du f.m f.k (n / f.p) + 1) := Int.mul_le_mul_of_nonneg_left (by omega) (by omega)
    rw [Int.mul_add, Int.mul_one] at h5
    omega
  · intro hne
    rw [e1, e2] at hne
    have hd : (n + 1) / f.p ≠ n / f.p := fun h => hne (by rw [h])
    have a1 := Int.ediv_mul_add_emod n f.p
    have a2 := Int.ediv_mul_add_emod (n + 1) f.p
    have b1 := Int.emod_nonneg n (show f.p ≠ 0 by omega)
    have b2 := Int.emod_lt_of_pos n hp
    have b3 := Int.emod_nonneg (n + 1) (show f.p ≠ 0 by omega)
    have b4 := Int.emod_lt_of_pos (n + 1) hp
    have hle : n / f.p ≤ (n + 1) / f.p := Int.ediv_le_ediv hp (by omega)
    have h6 : (n / f.p + 1) * f.p ≤ (n + 1) / f.p * f.p := Int.mul_le_mul_of_nonneg_right (by omega) (by omega)
    rw [Int.add_mul, Int.one_mul] at h6
    generalize (n + 1) / f.p * f.p = u at *
    generalize n / f.p * f.p = v at *
    omega
  · intro hl
    rw [e1, Int.ediv_eq_zero_of_lt n0 hl, du_zero, Int.mul_zero]
  · rw [e1, Int.mul_emod_right]
  · rw [e1, Int.mul_comm f.c]
    exact Int.mul_le_mul_of_nonneg_right hs (by omega)

set_option maxHeartbeats 8000000 in
set_option maxRecDepth 100000 in
theorem law_dsteps (c t x m k e p n : Int) (w : World) (hL : Lim w) :
    Calls Tryd.prog 7 #[.agg #[.int .i64 c, .int .i64 t, .int .i64 x, .int .i64 m, .int .i64 k, .int .i64 e, .int .i64 p], .int .i64 n] w fun r w' => r = .returned (.bool true) ∧ Below w.heap.size w w' := by
  have hS := Sev.new w c t x m k e p
  have hE : Hid (Below w.heap.size w (w.alloc (.cells #[.int .i64 c, .int .i64 t, .int .i64 x, .int .i64 m, .int .i64 k, .int .i64 e, .int .i64 p] 26))) := (Below.refl _ _).alloc (Nat.le_refl _) _
  have HL : Hid (Lim w) := hL
  clear hL
  go_enter Tryd.func7, Tryd.ntmps7
  go_wp2_with fail
  refine (awake9_any _ (HL.out.later hE.out)).mono ?_
  rintro r w1 ⟨rfl, hb1⟩
  have hS1 := hS.later hb1
  replace hb1 : Below w.heap.size w w1 := hE.out.trans (hb1.mono hE.out.size)
  obtain ⟨a0, a1, a2, a3, a4, a5, a6⟩ := hS1.fx
  clear hS
  by_cases g0 : n < 0
  · go_wp2_with fail
    go_ret
    exact ⟨by first | rfl | exact ret_b (by simp) | exact ret_b (decide_eq_true (by omega)) | exact ret_b (by simp; omega), hb1⟩
  · by_cases g1 : n > 1000000
    · go_wp2_with fail
      go_ret
      exact ⟨by first | rfl | exact ret_b (by simp) | exact ret_b (decide_eq_true (by omega)) | exact ret_b (by simp; omega), hb1⟩
    · have n0 : 0 ≤ n := by omega
      have n1 : n ≤ 1000000 := by omega
      have hb2 := hb1.alloc hb1.size (.cells #[.int .i64 c, .int .i64 t, .int .i64 x, .int .i64 m, .int .i64 k, .int .i64 e, .int .i64 p] 26)
      have hS2 := hS1.later ((Below.refl _ _).alloc (Nat.le_refl _) (.cells #[.int .i64 c, .int .i64 t, .int .i64 x, .int .i64 m, .int .i64 k, .int .i64 e, .int .i64 p] 26))
      have hF := Fxs.one (Sev.new w1 c t x m k e p)
      go_wp2_with fail
      refine (may9_any 1 _ _ _ hF (HL.out.later hb2)).mono ?_
      rintro r w3 ⟨rfl, hb3⟩
      have hS3 := hS2.later hb3
      replace hb3 : Below w.heap.size w w3 := hb2.trans (hb3.mono hb2.size)
      clear a0 a1 a2 a3 a4 a5 a6 hS1 hS2 hF hb1 hb2
      obtain ⟨a0, a1, a2, a3, a4, a5, a6⟩ := hS3.fx
      cases hm : may9 1 (fun _ => (⟨c, t, x, m, k, e, p⟩ : Fx)) with
      | false =>
        go_wp2_with fail
        go_ret
        exact ⟨by first | rfl | exact ret_b (by simp) | exact ret_b (decide_eq_true (by omega)) | exact ret_b (by simp; omega), hb3⟩
      | true =>
        have hk := kn_may1 hm
        obtain ⟨_, c0, c1, c2, p0, p1, x1, m0, m1, k1⟩ := kn_facts hk
        simp only at c0 c1 c2 p0 p1 x1 m0 m1 k1
        obtain ⟨s1, s2, s3, s4, s5, s6⟩ := of_step hk n0 n1
        simp only at s1 s2 s3 s4 s5 s6
        have HH : Hid (hor9 1 (fun _ => (⟨c, t, x, m, k, e, p⟩ : Fx)) = 16 * c) := hor_one hm
        obtain ⟨u0, u1, _⟩ := of_bd ⟨c, t, x, m, k, e, p⟩ n
        obtain ⟨u2, u3, _⟩ := of_bd ⟨c, t, x, m, k, e, p⟩ (n + 1)
        obtain ⟨A, hA⟩ : ∃ y, ofV9 ⟨c, t, x, m, k, e, p⟩ n = y := ⟨_, rfl⟩
        obtain ⟨B, hB⟩ : ∃ y, ofV9 ⟨c, t, x, m, k, e, p⟩ (n + 1) = y := ⟨_, rfl⟩
        have HA : Hid (ofV9 ⟨c, t, x, m, k, e, p⟩ n = A ∧ ofV9 ⟨c, t, x, m, k, e, p⟩ (n + 1) = B) := ⟨hA, hB⟩
        rw [hA] at s1 s2 s3 s4 s5 s6 u0 u1
        rw [hB] at s1 s2 s3 u2 u3
        clear hA hB hm hk g0 g1 m0 m1 k1
        go_wp2_with fail
        refine (of9_any c t x m k e p n _).mono ?_
        rintro r w4 ⟨rfl, hb4⟩
        rw [HA.out.1]
        have hS4 := hS3.later hb4
        replace hb4 : Below w.heap.size w w4 := hb3.trans (hb4.mono hb3.size)
        clear a0 a1 a2 a3 a4 a5 a6 hS3 hb3
        obtain ⟨a0, a1, a2, a3, a4, a5, a6⟩ := hS4.fx
        go_wp2_with fail
        refine (of9_any c t x m k e p (n + 1) _).mono ?_
        rintro r w5 ⟨rfl, hb5⟩
        rw [HA.out.2]
        have hS5 := hS4.later hb5
        replace hb5 : Below w.heap.size w w5 := hb4.trans (hb5.mono hb4.size)
        clear a0 a1 a2 a3 a4 a5 a6 hS4 hb4
        obtain ⟨a0, a1, a2, a3, a4, a5, a6⟩ := hS5.fx
        have s7 : A.tmod c = 0 := by rw [Int.tmod_eq_emod_of_nonneg u0]; exact s5
        have hj0 : 0 ≤ n / p := Int.ediv_nonneg n0 (by omega)
        have hj1 : n / p ≤ n := Int.ediv_le_self _ n0
        have hdiv : n.tdiv p = n / p := Int.tdiv_eq_ediv_of_nonneg n0
        have hr : (n + 1).tmod p = (n + 1) % p := Int.tmod_eq_emod_of_nonneg (by omega)
        obtain ⟨j, hj⟩ : ∃ j, n / p = j := ⟨_, rfl⟩
        rw [hj] at hdiv hj0 hj1 s6
        have hw1 : IntKind.i64.wrap j = j := by rw [IntKind.wrap_i64]; omega
        have hjc : 0 ≤ j * c ∧ j * c ≤ 1000000 * 6 := ⟨Int.mul_nonneg hj0 (by omega), Int.mul_le_mul (by omega) c1 (by omega) (by omega)⟩
        obtain ⟨jc0, jc1⟩ := hjc
        have hw2 : IntKind.i64.wrap (j * c) = j * c := by rw [IntKind.wrap_i64]; omega
        have hw3 : IntKind.i64.wrap (16 * c) = 16 * c := by rw [IntKind.wrap_i64]; omega
        have hw4 : IntKind.i64.wrap (B - A) = B - A := by rw [IntKind.wrap_i64]; omega
        have hw5 : IntKind.i64.wrap (n + 1) = n + 1 := by rw [IntKind.wrap_i64]; omega
        have hp0 : 0 < p := by omega
        have hp1 : p ≠ 0 := by omega
        have hpb : (p == 0) = false := by simp [hp1]
        have hc1 : c ≠ 0 := by omega
        have hcb : (c == 0) = false := by simp [hc1]
        have hc2 : 0 < c := by omega
        have hn1 : ¬ (c < B - A) := by omega
        have hn2 : ¬ (B < A) := by omega
        have hd6 : decide (A ≤ j * c) = true := decide_eq_true s6
        have HLim : Hid (Lim w5) := HL.out.later hb5
        have MK : Hid (∀ w' : World, Below w5.heap.size w5 w' → (w'.cell? ⟨w.heap.size, 0, none⟩ = some (.int .i64 c) ∧ w'.cell? ⟨w.heap.size, 1, none⟩ = some (.int .i64 t) ∧ w'.cell? ⟨w.heap.size, 2, none⟩ = some (.int .i64 x) ∧ w'.cell? ⟨w.heap.size, 3, none⟩ = some (.int .i64 m) ∧ w'.cell? ⟨w.heap.size, 4, none⟩ = some (.int .i64 k) ∧ w'.cell? ⟨w.heap.size, 5, none⟩ = some (.int .i64 e) ∧ w'.cell? ⟨w.heap.size, 6, none⟩ = some (.int .i64 p)) ∧ Below w5.heap.size w5 w') := fun w' hb => ⟨(hS5.later hb).fx, hb⟩
        clear hj s5
        by_cases q1 : n < p
        · have q2 : A = 0 := s4 q1
          subst q2
          clear s4
          by_cases q3 : B = 0
          · have q4 : (B == 0) = true := by simp [q3]
            clear s3 hr
            go_wp2_with fail
            go_region_held3 (fun w' => (w'.cell? ⟨w.heap.size, 0, none⟩ = some (.int .i64 c) ∧ w'.cell? ⟨w.heap.size, 1, none⟩ = some (.int .i64 t) ∧ w'.cell? ⟨w.heap.size, 2, none⟩ = some (.int .i64 x) ∧ w'.cell? ⟨w.heap.size, 3, none⟩ = some (.int .i64 m) ∧ w'.cell? ⟨w.heap.size, 4, none⟩ = some (.int .i64 k) ∧ w'.cell? ⟨w.heap.size, 5, none⟩ = some (.int .i64 e) ∧ w'.cell? ⟨w.heap.size, 6, none⟩ = some (.int .i64 p)) ∧ Below w5.heap.size w5 w')
              (first | exact MK.out _ (bstep (by assumption) (sBel (by assumption))) | exact MK.out _ ((sBel (by assumption)).alloc (sBel (by assumption)).size _) | exact MK.out _ (Below.refl _ _).drew)
              (first | (go_at_call 17; refine (hor9_any 1 (fun _ => ⟨c, t, x, m, k, e, p⟩) _ _ (by first | exact Fxs.one ((Sev.new w5 c t x m k e p).later (Below.refl _ _).drew) | exact Fxs.one (Sev.new _ c t x m k e p)) (HLim.out.later (sBel (by assumption)))).mono ?_; rintro r w6 ⟨rfl, hb6⟩; rw [HH.out]))
            all_goals
              go_wp2
              go_ret
              exact ⟨by first | rfl | exact ret_b (by simp) | exact ret_b (by simp; omega), hb5.trans ((sBel (by assumption)).mono hb5.size)⟩
          · have q4 : (B == 0) = false := by simp [q3]
            have q5 : (n + 1).tmod p = 0 := by rw [hr]; exact s3 q3
            clear s3 hr
            go_wp2_with fail
            go_region_held3 (fun w' => (w'.cell? ⟨w.heap.size, 0, none⟩ = some (.int .i64 c) ∧ w'.cell? ⟨w.heap.size, 1, none⟩ = some (.int .i64 t) ∧ w'.cell? ⟨w.heap.size, 2, none⟩ = some (.int .i64 x) ∧ w'.cell? ⟨w.heap.size, 3, none⟩ = some (.int .i64 m) ∧ w'.cell? ⟨w.heap.size, 4, none⟩ = some (.int .i64 k) ∧ w'.cell? ⟨w.heap.size, 5, none⟩ = some (.int .i64 e) ∧ w'.cell? ⟨w.heap.size, 6, none⟩ = some (.int .i64 p)) ∧ Below w5.heap.size w5 w')
              (first | exact MK.out _ (bstep (by assumption) (sBel (by assumption))) | exact MK.out _ ((sBel (by assumption)).alloc (sBel (by assumption)).size _) | exact MK.out _ (Below.refl _ _).drew)
              (first | (go_at_call 17; refine (hor9_any 1 (fun _ => ⟨c, t, x, m, k, e, p⟩) _ _ (by first | exact Fxs.one ((Sev.new w5 c t x m k e p).later (Below.refl _ _).drew) | exact Fxs.one (Sev.new _ c t x m k e p)) (HLim.out.later (sBel (by assumption)))).mono ?_; rintro r w6 ⟨rfl, hb6⟩; rw [HH.out]))
            all_goals
              go_wp2
              go_ret
              exact ⟨by first | rfl | exact ret_b (by simp) | exact ret_b (by simp; omega), hb5.trans ((sBel (by assumption)).mono hb5.size)⟩
        · clear s4
          by_cases q3 : B = A
          · have q4 : (B == A) = true := by simp [q3]
            clear s3 hr
            go_wp2_with fail
            go_region_held3 (fun w' => (w'.cell? ⟨w.heap.size, 0, none⟩ = some (.int .i64 c) ∧ w'.cell? ⟨w.heap.size, 1, none⟩ = some (.int .i64 t) ∧ w'.cell? ⟨w.heap.size, 2, none⟩ = some (.int .i64 x) ∧ w'.cell? ⟨w.heap.size, 3, none⟩ = some (.int .i64 m) ∧ w'.cell? ⟨w.heap.size, 4, none⟩ = some (.int .i64 k) ∧ w'.cell? ⟨w.heap.size, 5, none⟩ = some (.int .i64 e) ∧ w'.cell? ⟨w.heap.size, 6, none⟩ = some (.int .i64 p)) ∧ Below w5.heap.size w5 w')
              (first | exact MK.out _ (bstep (by assumption) (sBel (by assumption))) | exact MK.out _ ((sBel (by assumption)).alloc (sBel (by assumption)).size _) | exact MK.out _ (Below.refl _ _).drew)
              (first | (go_at_call 17; refine (hor9_any 1 (fun _ => ⟨c, t, x, m, k, e, p⟩) _ _ (by first | exact Fxs.one ((Sev.new w5 c t x m k e p).later (Below.refl _ _).drew) | exact Fxs.one (Sev.new _ c t x m k e p)) (HLim.out.later (sBel (by assumption)))).mono ?_; rintro r w6 ⟨rfl, hb6⟩; rw [HH.out]))
            all_goals
              go_wp2
              go_ret
              exact ⟨by first | rfl | exact ret_b (by simp) | exact ret_b (by simp; omega), hb5.trans ((sBel (by assumption)).mono hb5.size)⟩
          · have q4 : (B == A) = false := by simp [q3]
            have q5 : (n + 1).tmod p = 0 := by rw [hr]; exact s3 q3
            clear s3 hr
            go_wp2_with fail
            go_region_held3 (fun w' => (w'.cell? ⟨w.heap.size, 0, none⟩ = some (.int .i64 c) ∧ w'.cell? ⟨w.heap.size, 1, none⟩ = some (.int .i64 t) ∧ w'.cell? ⟨w.heap.size, 2, none⟩ = some (.int .i64 x) ∧ w'.cell? ⟨w.heap.size, 3, none⟩ = some (.int .i64 m) ∧ w'.cell? ⟨w.heap.size, 4, none⟩ = some (.int .i64 k) ∧ w'.cell? ⟨w.heap.size, 5, none⟩ = some (.int .i64 e) ∧ w'.cell? ⟨w.heap.size, 6, none⟩ = some (.int .i64 p)) ∧ Below w5.heap.size w5 w')
              (first | exact MK.out _ (bstep (by assumption) (sBel (by assumption))) | exact MK.out _ ((sBel (by assumption)).alloc (sBel (by assumption)).size _) | exact MK.out _ (Below.refl _ _).drew)
              (first | (go_at_call 17; refine (hor9_any 1 (fun _ => ⟨c, t, x, m, k, e, p⟩) _ _ (by first | exact Fxs.one ((Sev.new w5 c t x m k e p).later (Below.refl _ _).drew) | exact Fxs.one (Sev.new _ c t x m k e p)) (HLim.out.later (sBel (by assumption)))).mono ?_; rintro r w6 ⟨rfl, hb6⟩; rw [HH.out]))
            all_goals
              go_wp2
              go_ret
              exact ⟨by first | rfl | exact ret_b (by simp) | exact ret_b (by simp; omega), hb5.trans ((sBel (by assumption)).mono hb5.size)⟩
end Go.Proofs.YteibaiflljcghaaDoor
