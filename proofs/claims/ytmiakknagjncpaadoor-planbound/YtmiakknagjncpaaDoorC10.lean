/- Walks of package plan: within how many ticks. -/
import Derived.Test.YtmiakknagjncpaaDoorC9
namespace Go.Proofs.YtmiakknagjncpaaDoor
open Go.RowKit Go.Shelf

theorem upQ_any (q : Int) (w : World) (h0 : 0 ≤ q) (h1 : q ≤ 2000000) :
    Calls Tryd.prog 40 #[.int .i64 (q * 1048576), .int .i64 65536] w fun r w' => r = .returned (.int .i64 (16 * q)) ∧ w' = w := by
  have a1 : IntKind.i64.wrap (q * 1048576 + 65536) = q * 1048576 + 65536 := by rw [IntKind.wrap_i64]; omega
  have a2 : IntKind.i64.wrap (q * 1048576 + 65536 - 1) = q * 1048576 + 65536 - 1 := by rw [IntKind.wrap_i64]; omega
  have a3 : (q * 1048576 + 65536 - 1).tdiv 65536 = 16 * q := by rw [Int.tdiv_eq_ediv_of_nonneg (by omega)]; omega
  have a4 : IntKind.i64.wrap (16 * q) = 16 * q := by rw [IntKind.wrap_i64]; omega
  go_enter Tryd.func40, Tryd.ntmps40
  go_wp2
  go_ret
  exact ⟨by first | rfl | exact ret_i (by first | rfl | exact a3 | (rw [a3, a4])), rfl⟩

set_option maxHeartbeats 2000000 in
set_option maxRecDepth 100000 in
theorem bound_any (l : Nat) (f : Nat → Fx) (r : Int) (v : Value) (w : World) (h : Fxs w v l f) (hL : Lim w) :
    Calls Tryd.prog 19 #[v, .int .i64 r] w fun e w' => e = .returned (.int .i64 (bndV l f r)) ∧ Below w.heap.size w w' := by
  have HX : Hid (Fxs w v l f ∧ Lim w) := ⟨h, hL⟩
  obtain ⟨a, cap, rfl, h1, h2, h0, h3⟩ := h
  clear hL h0
  cases hm : may9 l f with
  | false =>
    have HM : Hid (may9 l f = false) := hm
    have H : Hid (bndV l f r = 0) := bnd_no (.inl hm)
    clear hm h3
    go_enter Tryd.func19, Tryd.ntmps19
    go_wp2_with fail
    refine (may9_any l f _ _ HX.out.1 HX.out.2).mono ?_
    rintro e w1 ⟨rfl, hb1⟩
    rw [HM.out]
    go_wp2
    go_ret
    exact ⟨ret_i H.out.symm, hb1⟩
  | true =>
    have HM : Hid (may9 l f = true) := hm
    by_cases r0 : r < 0
    · have H : Hid (bndV l f r = 0) := bnd_no (.inr (.inl r0))
      clear hm h3
      go_enter Tryd.func19, Tryd.ntmps19
      go_wp2_with fail
      refine (may9_any l f _ _ HX.out.1 HX.out.2).mono ?_
      rintro e w1 ⟨rfl, hb1⟩
      rw [HM.out]
      go_wp2
      go_ret
      exact ⟨ret_i H.out.symm, hb1⟩
    · by_cases r1 : r > 1048576
      · have H : Hid (bndV l f r = 0) := bnd_no (.inr (.inr (by omega)))
        clear hm h3
        go_enter Tryd.func19, Tryd.ntmps19
        go_wp2_with fail
        refine (may9_any l f _ _ HX.out.1 HX.out.2).mono ?_
        rintro e w1 ⟨rfl, hb1⟩
        rw [HM.out]
        go_wp2
        go_ret
        exact ⟨ret_i H.out.symm, hb1⟩
      · have H : Hid (bndV l f r = 16 * r + 32 * cSum l f + 1) := bnd_yes hm (by omega) (by omega)
        have l4 : l ≤ 4 := (may9_facts hm).1
        clear hm
        go_enter Tryd.func19, Tryd.ntmps19
        go_wp2_with fail
        refine (may9_any l f _ _ HX.out.1 HX.out.2).mono ?_
        rintro e w1 ⟨rfl, hb1⟩
        rw [HM.out]
        go_wp2_with fail
        go_loopw [5, 22] (fun s5 i wr => ∃ (j : Nat), j ≤ l ∧ i = .int .i64 j ∧ s5 = .int .i64 (r + 2 * cSum j f) ∧ Below w.heap.size w wr) (fun _ i _ => ((l : Int) - intOf i).toNat)
        case atStart => exact ⟨0, by omega, rfl, by rw [show cSum 0 f = 0 from rfl]; congr 1; omega, hb1⟩
        case round =>
          obtain ⟨j, hj, rfl, rfl, hbw⟩ := hrel
          have hq := cSum_bd HM.out j hj
          by_cases hlt : (j : Int) < l
          · obtain ⟨bk, o, rfl, h4⟩ := h3 (by omega)
            have hrow := row_open (f := f j) (h4 j (by omega))
            clear h4 h3
            obtain ⟨⟨cj, tj, xj, mj, kj, ej, pj⟩, hf⟩ : ∃ y, f j = y := ⟨_, rfl⟩
            have HF : Hid (f j = ⟨cj, tj, xj, mj, kj, ej, pj⟩) := hf
            rw [hf] at hrow
            clear hf
            obtain ⟨k0, k1, k2, k3, k4, k5, k6⟩ := hrow
            simp only at k0 k1 k2 k3 k4 k5 k6
            have e0 := cell_later hbw k0
            have e1 := cell_later hbw k1
            have e2 := cell_later hbw k2
            have e3 := cell_later hbw k3
            have e4 := cell_later hbw k4
            have e5 := cell_later hbw k5
            have e6 := cell_later hbw k6
            have sb := World.block_lt_of_cell? _ _ k0
            clear k0 k1 k2 k3 k4 k5 k6
            have sw := hbw.size
            have hc := may9_c HM.out j (by omega)
            have HE : Hid (cSum (j + 1) f = cSum j f + (f j).c) := rfl
            rw [HF.out] at hc HE
            simp only at hc HE
            generalize cSum j f = q at *
            obtain ⟨q0, q1⟩ := hq
            obtain ⟨c0, c1⟩ := hc
            have a1 : IntKind.i64.wrap (2 * cj) = 2 * cj := by rw [IntKind.wrap_i64]; omega
            have a2 : IntKind.i64.wrap (r + 2 * q + 2 * cj) = r + 2 * (q + cj) := by rw [IntKind.wrap_i64]; omega
            have hbox : Below w.heap.size w (wr.alloc (.cells #[.int .i64 cj, .int .i64 tj, .int .i64 xj, .int .i64 mj, .int .i64 kj, .int .i64 ej, .int .i64 pj] 33)) := hbw.alloc sw _
            go_wp2_with fail
            go_roundw
            case rel => exact ⟨j + 1, by omega, by go_num, by rw [HE.out], hbox⟩
            case measure => simp [intOf]; omega
          · obtain rfl : j = l := by omega
            generalize cSum j f = q at *
            obtain ⟨q0, q1⟩ := hq
            have a1 : IntKind.i64.wrap ((r + 2 * q) * 1048576) = (r + 2 * q) * 1048576 := by rw [IntKind.wrap_i64]; omega
            have a2 : IntKind.i64.wrap (16 * (r + 2 * q) + 1) = 16 * (r + 2 * q) + 1 := by rw [IntKind.wrap_i64]; omega
            go_wp2_with fail
            refine (upQ_any (r + 2 * q) _ (by omega) (by omega)).mono ?_
            rintro e w2 ⟨rfl, hw2⟩
            obtain rfl := hw2.symm
            go_wp2
            go_ret
            exact ⟨ret_i (by rw [H.out]; omega), hbw⟩
end Go.Proofs.YtmiakknagjncpaaDoor
