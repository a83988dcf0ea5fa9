import Derived.Test.YteibaiflljcghaaDoorD10
import Derived.Test.YteibaiflljcghaaDoorY1
/- What the statement DemandWindow comes to. -/
namespace Go.Proofs.YteibaiflljcghaaDoor
open Go.RowKit Go.Shelf

theorem kn_of_may {f : Fx} (h : may9 1 (fun _ => f) = true) : knB f = true := knAll_of (may9_facts h).2.1 (i := 0) (by omega)

set_option maxHeartbeats 8000000 in
set_option maxRecDepth 100000 in
theorem law_dwindow (c t x m k e p fr la n : Int) (w : World) (hL : Lim w) :
    Calls Tryd.prog 5 #[.agg #[.int .i64 c, .int .i64 t, .int .i64 x, .int .i64 m, .int .i64 k, .int .i64 e, .int .i64 p], .int .i64 fr, .int .i64 la, .int .i64 n] w fun r w' => r = .returned (.bool true) ∧ Below w.heap.size w w' := by
  have hS := Sev.new w c t x m k e p
  have hE : Hid (Below w.heap.size w (w.alloc (.cells #[.int .i64 c, .int .i64 t, .int .i64 x, .int .i64 m, .int .i64 k, .int .i64 e, .int .i64 p] 26))) := (Below.refl _ _).alloc (Nat.le_refl _) _
  have HL : Hid (Lim w) := hL
  clear hL
  go_enter Tryd.func5, Tryd.ntmps5
  go_wp2_with fail
  refine (awake9_any _ (HL.out.later hE.out)).mono ?_
  rintro r w1 ⟨rfl, hb1⟩
  have hS1 := hS.later hb1
  replace hb1 : Below w.heap.size w w1 := hE.out.trans (hb1.mono hE.out.size)
  obtain ⟨a0, a1, a2, a3, a4, a5, a6⟩ := hS1.fx
  clear hS
  have hb2 := hb1.alloc hb1.size (.cells #[.int .i64 c, .int .i64 t, .int .i64 x, .int .i64 m, .int .i64 k, .int .i64 e, .int .i64 p] 26)
  have hS2 := hS1.later ((Below.refl _ _).alloc (Nat.le_refl _) (.cells #[.int .i64 c, .int .i64 t, .int .i64 x, .int .i64 m, .int .i64 k, .int .i64 e, .int .i64 p] 26))
  have hF := Fxs.one (Sev.new w1 c t x m k e p)
  go_wp2_with fail
  refine (may9_any 1 _ _ _ hF (HL.out.later hb2)).mono ?_
  rintro r w3 ⟨rfl, hb3⟩
  have hS3 := hS2.later hb3
  replace hb3 : Below w.heap.size w w3 := hb2.trans (hb3.mono hb2.size)
  clear a0 a1 a2 a3 a4 a5 a6 hS1 hS2 hF hb1 hb2
  obtain ⟨a0, a1, a2, a3, a4, a5, a6⟩ := hS3.fx
  cases hm : may9 1 (fun _ => (⟨c, t, x, m, k, e, p⟩ : Fx)) with
  | false =>
    go_wp2_with fail
    go_ret
    exact ⟨by first | rfl | exact ret_b (by simp) | exact ret_b (decide_eq_true (by omega)) | exact ret_b (by simp; omega), hb3⟩
  | true =>
    have HK : Hid (knB ⟨c, t, x, m, k, e, p⟩ = true) := kn_of_may hm
    obtain ⟨_, c0, c1, c2, p0, p1, x1, m0, m1, k1⟩ := kn_facts HK.out
    simp only at c0 c1 c2 p0 p1 x1 m0 m1 k1
    clear hm
    by_cases g0 : fr < 0
    · go_wp2_with fail
      go_ret
      exact ⟨by first | rfl | exact ret_b (by simp) | exact ret_b (decide_eq_true (by omega)) | exact ret_b (by simp; omega), hb3⟩
    · have o0 := g0
      by_cases g1 : fr > 1000000
      · go_wp2_with fail
        go_ret
        exact ⟨by first | rfl | exact ret_b (by simp) | exact ret_b (decide_eq_true (by omega)) | exact ret_b (by simp; omega), hb3⟩
      · have o1 := g1
        by_cases g2 : la < 0
        · go_wp2_with fail
          go_ret
          exact ⟨by first | rfl | exact ret_b (by simp) | exact ret_b (decide_eq_true (by omega)) | exact ret_b (by simp; omega), hb3⟩
        · have o2 := g2
          by_cases g3 : la > 1000
          · go_wp2_with fail
            go_ret
            exact ⟨by first | rfl | exact ret_b (by simp) | exact ret_b (decide_eq_true (by omega)) | exact ret_b (by simp; omega), hb3⟩
          · have o3 := g3
            by_cases g4 : n < 0
            · go_wp2_with fail
              go_ret
              exact ⟨by first | rfl | exact ret_b (by simp) | exact ret_b (decide_eq_true (by omega)) | exact ret_b (by simp; omega), hb3⟩
            · have o4 := g4
              by_cases g5 : n > 1000
              · go_wp2_with fail
                go_ret
                exact ⟨by first | rfl | exact ret_b (by simp) | exact ret_b (decide_eq_true (by omega)) | exact ret_b (by simp; omega), hb3⟩
              · have o5 := g5
                clear o0 o1 o2 o3 o4 o5
                have f0 : 0 ≤ fr := by omega
                have f1 : fr ≤ 1000000 := by omega
                have l0 : 0 ≤ la := by omega
                have l1 : la ≤ 1000 := by omega
                have n0 : 0 ≤ n := by omega
                have n1 : n ≤ 1000 := by omega
                have hd : du m k fr ≤ du m k fr := Int.le_refl _
                have HD0 : Hid (0 = c * (du m k (fr + (0 : Nat)) - du m k fr)) := by show _ = _; rw [show fr + ((0 : Nat) : Int) = fr by omega, Int.sub_self, Int.mul_zero]
                have HZ0 : Hid (la + p = la + p * ((0 : Nat) + 1)) := by show _ = _; simp
                go_wp2_with fail
                go_loopw [10, 11, 12] (fun s10 s11 s12 wr => ∃ (i : Nat) (mu z : Int), i ≤ 1000 ∧ 0 ≤ mu ∧ mu ≤ 6 * i ∧ z ≤ 2000 ∧ 0 ≤ z ∧ s10 = .int .i64 mu ∧ s11 = .int .i64 (fr + i) ∧ s12 = .int .i64 z ∧ Hid (mu = c * (du m k (fr + i) - du m k fr)) ∧ Hid (z = la + p * (i + 1)) ∧ Hid ((i : Int) * p ≤ n) ∧ Below w3.heap.size w3 wr) (fun _ _ s12 _ => (2000 - intOf s12).toNat)
                case atStart => exact ⟨0, 0, la + p, by omega, by omega, by omega, by omega, by omega, rfl, by go_num, by go_num, HD0.out, HZ0.out, by show _ ≤ _; simp; omega, Below.refl _ _⟩
                case round =>
                  obtain ⟨i, mu, z, i1, mu0, mu1, z1, z0, rfl, rfl, rfl, HD, HZ, HI, hbw⟩ := hrel
                  have hS4 := hS3.later hbw
                  obtain ⟨a0, a1, a2, a3, a4, a5, a6⟩ := hS4.fx
                  by_cases hz : z ≤ n
                  · have HO : Hid (onB m k (fr + i) = adB m k (fr + i)) := onB_in m0 m1 k1 (by omega) (by omega)
                    have HI2 : Hid (((i + 1 : Nat) : Int) * p ≤ n) := by
                      show _ ≤ _
                      have := HZ.out
                      rw [Int.mul_comm]
                      have e1 : p * ((i + 1 : Nat) : Int) = p * ((i : Int) + 1) := by simp
                      rw [e1]; omega
                    have hi2 : i + 1 ≤ 1000 := by
                      have h1 := HI2.out
                      have h2 : ((i + 1 : Nat) : Int) * 1 ≤ ((i + 1 : Nat) : Int) * p := Int.mul_le_mul_of_nonneg_left (by omega) (by omega)
                      omega
                    have HZ2 : Hid (z + p = la + p * (((i + 1 : Nat) : Int) + 1)) := by
                      show _ = _
                      rw [HZ.out, show ((i + 1 : Nat) : Int) + 1 = (i : Int) + 1 + 1 by omega, Int.mul_add p ((i : Int) + 1) 1, Int.mul_one]; omega
                    cases had : adB m k (fr + i) with
                    | false =>
                      have HA : Hid (adB m k (fr + i) = false) := had
                      have HD2 : Hid (mu = c * (du m k (fr + (i + 1 : Nat)) - du m k fr)) := by
                        show _ = _
                        rw [show fr + ((i + 1 : Nat) : Int) = fr + i + 1 by omega, du_not m0 m1 k1 had]; exact HD.out
                      clear had
                      go_wp2_with fail
                      refine (on_any m k (fr + i) _).mono ?_
                      rintro r w5 ⟨rfl, hb5⟩
                      rw [HO.out, HA.out]
                      obtain ⟨d0, d1, d2, d3, d4, d5, d6⟩ := (hS4.later hb5).fx
                      replace hb5 := hbw.trans (hb5.mono hbw.size)
                      clear a0 a1 a2 a3 a4 a5 a6
                      go_wp2_with fail
                      go_roundw
                      case rel => exact ⟨i + 1, mu, z + p, by omega, by omega, by omega, by omega, by omega, rfl, by go_num, by go_num, HD2.out, HZ2.out, HI2.out, hb5⟩
                      case measure => simp [intOf]; omega
                    | true =>
                      have HA : Hid (adB m k (fr + i) = true) := had
                      have HD2 : Hid (mu + c = c * (du m k (fr + (i + 1 : Nat)) - du m k fr)) := by
                        show _ = _
                        rw [show fr + ((i + 1 : Nat) : Int) = fr + i + 1 by omega, du_yes m0 m1 k1 had, HD.out, show du m k (fr + i) + 1 - du m k fr = (du m k (fr + i) - du m k fr) + 1 by omega, Int.mul_add, Int.mul_one]
                      clear had
                      go_wp2_with fail
                      refine (on_any m k (fr + i) _).mono ?_
                      rintro r w5 ⟨rfl, hb5⟩
                      rw [HO.out, HA.out]
                      obtain ⟨d0, d1, d2, d3, d4, d5, d6⟩ := (hS4.later hb5).fx
                      replace hb5 := hbw.trans (hb5.mono hbw.size)
                      clear a0 a1 a2 a3 a4 a5 a6
                      go_wp2_with fail
                      go_roundw
                      case rel => exact ⟨i + 1, mu + c, z + p, by omega, by omega, by omega, by omega, by omega, by go_num, by go_num, by go_num, HD2.out, HZ2.out, HI2.out, hb5⟩
                      case measure => simp [intOf]; omega
                  · have HL : Hid (mu ≤ ofV9 ⟨c, t, x, m, k, e, p⟩ n) := by
                      show _ ≤ _
                      rw [of9_yes HK.out n0 (by omega), HD.out]
                      have h1 := (du_add (a := fr) (b := (i : Int)) m0 m1 k1).2
                      have h2 : (i : Int) ≤ n / p := (Int.le_ediv_iff_mul_le (by omega)).2 HI.out
                      have h3 := du_mono m0 m1 k1 h2
                      exact Int.mul_le_mul_of_nonneg_left (show du m k (fr + i) - du m k fr ≤ du m k (n / p) by omega) (show 0 ≤ c by omega)
                    go_wp2_with fail
                    refine (of9_any c t x m k e p n _).mono ?_
                    rintro r w5 ⟨rfl, hb5⟩
                    replace hb5 := hb3.trans ((hbw.trans (hb5.mono hbw.size)).mono hb3.size)
                    go_wp2_with fail
                    go_ret
                    exact ⟨ret_b (decide_eq_true HL.out), hb5⟩
end Go.Proofs.YteibaiflljcghaaDoor
