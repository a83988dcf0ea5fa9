/- What the statement PlanBound comes to. -/
import Derived.Test.YtmiakknagjncpaaDoorC11
namespace Go.Proofs.YtmiakknagjncpaaDoor
open Go.RowKit Go.Shelf

set_option maxHeartbeats 2000000 in
set_option maxRecDepth 100000 in
theorem law_pbound (l : Nat) (f : Nat → Fx) (r : Int) (v : Value) (w : World) (h : Fxs w v l f) (hL : Lim w) :
    Calls Tryd.prog 8 #[v, .int .i64 r] w fun e w' => e = .returned (.bool true) ∧ Below w.heap.size w w' := by
  have HX0 : Hid (Fxs w v l f ∧ Lim w) := ⟨h, hL⟩
  obtain ⟨a, cap, rfl, h1, h2, h0, h3⟩ := h
  clear hL h0
  go_enter Tryd.func8, Tryd.ntmps8
  go_wp2_with fail
  refine (awake10_any _ HX0.out.2).mono ?_
  rintro e w1 ⟨rfl, hb1⟩
  have HX1 : Hid (Fxs w1 (.slice a l cap) l f ∧ Lim w1) := ⟨HX0.out.1.later hb1, HX0.out.2.later hb1⟩
  go_wp2_with fail
  refine (may9_any l f _ _ HX1.out.1 HX1.out.2).mono ?_
  rintro e w2 ⟨rfl, hb2⟩
  have HX2 : Hid (Fxs w2 (.slice a l cap) l f ∧ Lim w2) := ⟨HX1.out.1.later hb2, HX1.out.2.later hb2⟩
  replace hb2 := hb1.trans (hb2.mono hb1.size)
  clear hb1 HX1 HX0
  cases hm : may9 l f with
  | false =>
    clear hm h3
    go_wp2
    go_ret
    exact ⟨by first | rfl | exact ret_b (by simp) | exact ret_b (decide_eq_true (by omega)) | exact ret_b (by simp; omega), hb2⟩
  | true =>
    have HM : Hid (may9 l f = true) := hm
    clear hm
    by_cases r0 : r < 0
    · clear h3
      go_wp2
      go_ret
      exact ⟨by first | rfl | exact ret_b (by simp) | exact ret_b (decide_eq_true (by omega)) | exact ret_b (by simp; omega), hb2⟩
    · by_cases r1 : r ≥ 1048576
      · clear h3
        go_wp2
        go_ret
        exact ⟨by first | rfl | exact ret_b (by simp) | exact ret_b (decide_eq_true (by omega)) | exact ret_b (by simp; omega), hb2⟩
      · have H : Hid (bndV l f r = 16 * r + 32 * cSum l f + 1) := bnd_yes HM.out (by omega) (by omega)
        have H' : Hid (bndV l f (r + 1) = 16 * (r + 1) + 32 * cSum l f + 1) := bnd_yes HM.out (by omega) (by omega)
        have l4 : l ≤ 4 := (may9_facts HM.out).1
        obtain ⟨q0, q1⟩ := cSum_bd HM.out l (Nat.le_refl _)
        obtain ⟨Q, hQ⟩ : ∃ Q, cSum l f = Q := ⟨_, rfl⟩
        have HQ : Hid (cSum l f = Q) := hQ
        rw [hQ] at H H' q0 q1
        clear hQ
        go_wp2_with fail
        refine (bound_any l f r _ _ HX2.out.1 HX2.out.2).mono ?_
        rintro e w3 ⟨rfl, hb3⟩
        rw [H.out]
        have HX3 : Hid (Fxs w3 (.slice a l cap) l f ∧ Lim w3) := ⟨HX2.out.1.later hb3, HX2.out.2.later hb3⟩
        replace hb3 := hb2.trans (hb3.mono hb2.size)
        clear hb2 HX2
        go_wp2_with fail
        go_loop [7, 8] (fun s7 i => ∃ (j : Nat), j ≤ l ∧ i = .int .i64 j ∧ s7 = .int .i64 (cSum j f)) (fun _ i => ((l : Int) - intOf i).toNat)
        case atStart => exact ⟨0, by omega, rfl, rfl⟩
        case round =>
          obtain ⟨j, hj, rfl, rfl⟩ := hrel
          have hq := cSum_bd HM.out j hj
          by_cases hlt : (j : Int) < l
          · obtain ⟨bk, o, rfl, h4⟩ := h3 (by omega)
            have k0 := cell_later hb3 (row_open (f := f j) (h4 j (by omega))).1
            clear h4 h3
            have hc := may9_c HM.out j (by omega)
            have HE : Hid (cSum (j + 1) f = cSum j f + (f j).c) := rfl
            generalize (f j).c = cj at *
            generalize cSum j f = q at *
            obtain ⟨z0, z1⟩ := hq
            obtain ⟨c0, c1⟩ := hc
            have a1 : IntKind.i64.wrap (q + cj) = q + cj := by rw [IntKind.wrap_i64]; omega
            go_wp2_with fail
            go_round
            case rel => exact ⟨j + 1, by omega, by go_num, by rw [HE.out]⟩
            case measure => simp [intOf]; omega
          · obtain rfl : j = l := by omega
            rw [HQ.out]
            clear h3 hq
            have a1 : IntKind.i64.wrap (16 * r) = 16 * r := by rw [IntKind.wrap_i64]; omega
            have a2 : IntKind.i64.wrap (32 * Q) = 32 * Q := by rw [IntKind.wrap_i64]; omega
            have a3 : IntKind.i64.wrap (16 * r + 32 * Q) = 16 * r + 32 * Q := by rw [IntKind.wrap_i64]; omega
            have a4 : IntKind.i64.wrap (16 * r + 32 * Q + 1) = 16 * r + 32 * Q + 1 := by rw [IntKind.wrap_i64]; omega
            have a5 : IntKind.i64.wrap (r + 1) = r + 1 := by rw [IntKind.wrap_i64]; omega
            have a6 : IntKind.i64.wrap (16 * r + 32 * Q + 1 + 16) = 16 * (r + 1) + 32 * Q + 1 := by rw [IntKind.wrap_i64]; omega
            go_wp2_with fail
            refine (bound_any j f (r + 1) _ _ HX3.out.1 HX3.out.2).mono ?_
            rintro e w4 ⟨rfl, hb4⟩
            rw [H'.out]
            go_wp2
            go_ret
            exact ⟨by first | rfl | exact ret_b (by simp) | exact ret_b (decide_eq_true (by omega)) | exact ret_b (by simp; omega), hb3.trans (hb4.mono hb3.size)⟩
end Go.Proofs.YtmiakknagjncpaaDoor
