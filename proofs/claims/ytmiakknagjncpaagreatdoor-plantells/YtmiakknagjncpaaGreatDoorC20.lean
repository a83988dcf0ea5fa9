/- Walks of the document's own answers of chapter 10: what is the same; the bound. -/
import Derived.Test.YtmiakknagjncpaaGreatDoorC19
namespace Go.Proofs.YtmiakknagjncpaaGreatDoor
open Go.RowKit Go.Shelf

set_option maxHeartbeats 2000000 in
set_option maxRecDepth 100000 in
theorem springy_self (n : Nat) (u m e : Nat → Int) (v v' : Value) (w : World) (h : Sprs w v n u m e) (h' : Sprs w v' n u m e) (hn : n ≤ 100) :
    Calls Tryz.prog 9 #[v, v'] w fun r w' => r = .returned (.bool true) ∧ Below w.heap.size w w' := by
  obtain ⟨a, cap, rfl, h1, h2, _, h3⟩ := h
  obtain ⟨a', cap', rfl, h1', h2', _, h3'⟩ := h'
  go_enter Tryz.func9, Tryz.ntmps9
  go_wp2_with fail
  go_loopw [5] (fun i wr => ∃ (j : Nat), j ≤ n ∧ i = .int .i64 j ∧ Below w.heap.size w wr) (fun i _ => ((n : Int) - intOf i).toNat)
  case atStart => exact ⟨0, by omega, rfl, Below.refl _ _⟩
  case round =>
    obtain ⟨j, hj, rfl, hbw⟩ := hrel
    by_cases hlt : (j : Int) < n
    · obtain ⟨bk, o, rfl, h4⟩ := h3 (by omega)
      obtain ⟨bk', o', rfl, h4'⟩ := h3' (by omega)
      obtain ⟨c0, c1, c2⟩ := h4 j (by omega)
      obtain ⟨d0, d1, d2⟩ := h4' j (by omega)
      replace c0 := cell_later hbw c0
      replace c1 := cell_later hbw c1
      replace c2 := cell_later hbw c2
      replace d0 := cell_later hbw d0
      replace d1 := cell_later hbw d1
      replace d2 := cell_later hbw d2
      clear h3 h3' h4 h4'
      generalize u j = x at *
      generalize m j = y at *
      generalize e j = z at *
      have hN : ∀ w, (binOp .neq 47 (.agg #[.int .i64 x, .int .i64 y, .int .i64 z]) (.agg #[.int .i64 x, .int .i64 y, .int .i64 z])).run Tryz.prog w = .ok (.bool false) w := fun w => by simp [go_sem]
      go_wp2_with fail
      go_region
      all_goals
        go_wp2_with fail
        go_roundw
        case rel => exact ⟨j + 1, by omega, by go_num, hbw.drew⟩
        case measure => simp [intOf]; omega
    · go_wp2
      go_ret
      exact ⟨rfl, hbw⟩

set_option maxHeartbeats 2000000 in
set_option maxRecDepth 100000 in
theorem same_self (n : Nat) (f : Nat → Fx) (v v' : Value) (w : World) (h : Fxs w v n f) (h' : Fxs w v' n f) (hn : n ≤ 100) :
    Calls Tryz.prog 10 #[v, v'] w fun r w' => r = .returned (.bool true) ∧ Below w.heap.size w w' := by
  obtain ⟨a, cap, rfl, h1, h2, _, h3⟩ := h
  obtain ⟨a', cap', rfl, h1', h2', _, h3'⟩ := h'
  go_enter Tryz.func10, Tryz.ntmps10
  go_wp2_with fail
  go_loopw [5] (fun i wr => ∃ (j : Nat), j ≤ n ∧ i = .int .i64 j ∧ Below w.heap.size w wr) (fun i _ => ((n : Int) - intOf i).toNat)
  case atStart => exact ⟨0, by omega, rfl, Below.refl _ _⟩
  case round =>
    obtain ⟨j, hj, rfl, hbw⟩ := hrel
    by_cases hlt : (j : Int) < n
    · obtain ⟨bk, o, rfl, h4⟩ := h3 (by omega)
      obtain ⟨bk', o', rfl, h4'⟩ := h3' (by omega)
      have hr := row_open (f := f j) (fun q hq => cell_later hbw (h4 j (by omega) q hq))
      have hr' := row_open (f := f j) (fun q hq => cell_later hbw (h4' j (by omega) q hq))
      clear h3 h3' h4 h4'
      obtain ⟨⟨cj, tj, xj, mj, kj, ej, pj⟩, hf⟩ : ∃ y, f j = y := ⟨_, rfl⟩
      rw [hf] at hr hr'
      clear hf
      obtain ⟨c0, c1, c2, c3, c4, c5, c6⟩ := hr
      obtain ⟨d0, d1, d2, d3, d4, d5, d6⟩ := hr'
      simp only at c0 c1 c2 c3 c4 c5 c6 d0 d1 d2 d3 d4 d5 d6
      have hN7 : ∀ w, (binOp .neq 42 (.agg #[.int .i64 cj, .int .i64 tj, .int .i64 xj, .int .i64 mj, .int .i64 kj, .int .i64 ej, .int .i64 pj]) (.agg #[.int .i64 cj, .int .i64 tj, .int .i64 xj, .int .i64 mj, .int .i64 kj, .int .i64 ej, .int .i64 pj])).run Tryz.prog w = .ok (.bool false) w := fun w => by simp [go_sem]
      go_wp2_with fail
      go_region
      all_goals
        go_wp2_with fail
        go_roundw
        case rel => exact ⟨j + 1, by omega, by go_num, hbw.drew⟩
        case measure => simp [intOf]; omega
    · go_wp2
      go_ret
      exact ⟨rfl, hbw⟩

set_option maxHeartbeats 2000000 in
set_option maxRecDepth 100000 in
theorem rbound_any (l : Nat) (f : Nat → Fx) (r : Int) (v : Value) (w : World) (h : Fxs w v l f) (hl : l ≤ 1100) :
    Calls Tryz.prog 12 #[v, .int .i64 r] w fun e w' => e = .returned (.int .i64 (bndV l f r)) ∧ Below w.heap.size w w' := by
  have HX : Hid (Fxs w v l f) := h
  obtain ⟨a, cap, rfl, h1, h2, h0, h3⟩ := h
  clear h0
  cases hm : may9 l f with
  | false =>
    have HM : Hid (may9 l f = false) := hm
    have H : Hid (bndV l f r = 0) := bnd_no (.inl hm)
    clear hm h3
    go_enter Tryz.func12, Tryz.ntmps12
    go_wp2_with fail
    refine (rmayL_any l f _ _ HX.out hl).mono ?_
    rintro e w1 ⟨rfl, hb1⟩
    rw [HM.out]
    go_wp2
    go_ret
    exact ⟨ret_i H.out.symm, hb1⟩
  | true =>
    have HM : Hid (may9 l f = true) := hm
    by_cases r0 : r < 0
    · have H : Hid (bndV l f r = 0) := bnd_no (.inr (.inl r0))
      clear hm h3
      go_enter Tryz.func12, Tryz.ntmps12
      go_wp2_with fail
      refine (rmayL_any l f _ _ HX.out hl).mono ?_
      rintro e w1 ⟨rfl, hb1⟩
      rw [HM.out]
      go_wp2
      go_ret
      exact ⟨ret_i H.out.symm, hb1⟩
    · by_cases r1 : r > 1048576
      · have H : Hid (bndV l f r = 0) := bnd_no (.inr (.inr (by omega)))
        clear hm h3
        go_enter Tryz.func12, Tryz.ntmps12
        go_wp2_with fail
        refine (rmayL_any l f _ _ HX.out hl).mono ?_
        rintro e w1 ⟨rfl, hb1⟩
        rw [HM.out]
        go_wp2
        go_ret
        exact ⟨ret_i H.out.symm, hb1⟩
      · have H : Hid (bndV l f r = 16 * r + 32 * cSum l f + 1) := bnd_yes hm (by omega) (by omega)
        have l4 : l ≤ 4 := (may9_facts hm).1
        clear hm
        go_enter Tryz.func12, Tryz.ntmps12
        go_wp2_with fail
        refine (rmayL_any l f _ _ HX.out hl).mono ?_
        rintro e w1 ⟨rfl, hb1⟩
        rw [HM.out]
        go_wp2_with fail
        go_loop [1, 6] (fun s1 i => ∃ (j : Nat), j ≤ l ∧ i = .int .i64 j ∧ s1 = .int .i64 (r + 2 * cSum j f)) (fun _ i => ((l : Int) - intOf i).toNat)
        case atStart => exact ⟨0, by omega, rfl, by rw [show cSum 0 f = 0 from rfl]; congr 1; omega⟩
        case round =>
          obtain ⟨j, hj, rfl, rfl⟩ := hrel
          have hq := cSum_bd HM.out j hj
          by_cases hlt : (j : Int) < l
          · obtain ⟨bk, o, rfl, h4⟩ := h3 (by omega)
            have k0 := cell_later hb1 (row_open (f := f j) (h4 j (by omega))).1
            clear h4 h3
            have hc := may9_c HM.out j (by omega)
            have HE : Hid (cSum (j + 1) f = cSum j f + (f j).c) := rfl
            generalize (f j).c = cj at *
            generalize cSum j f = q at *
            obtain ⟨q0, q1⟩ := hq
            obtain ⟨c0, c1⟩ := hc
            have a1 : IntKind.i64.wrap (2 * cj) = 2 * cj := by rw [IntKind.wrap_i64]; omega
            have a2 : IntKind.i64.wrap (r + 2 * q + 2 * cj) = r + 2 * (q + cj) := by rw [IntKind.wrap_i64]; omega
            go_wp2_with fail
            go_round
            case rel => exact ⟨j + 1, by omega, by go_num, by rw [HE.out]⟩
            case measure => simp [intOf]; omega
          · obtain rfl : j = l := by omega
            generalize cSum j f = q at *
            obtain ⟨q0, q1⟩ := hq
            have a1 : IntKind.i64.wrap ((r + 2 * q) * 1048576) = (r + 2 * q) * 1048576 := by rw [IntKind.wrap_i64]; omega
            have a2 : IntKind.i64.wrap ((r + 2 * q) * 1048576 + 65535) = (r + 2 * q) * 1048576 + 65535 := by rw [IntKind.wrap_i64]; omega
            have a3 : ((r + 2 * q) * 1048576 + 65535).tdiv 65536 = 16 * (r + 2 * q) := by rw [Int.tdiv_eq_ediv_of_nonneg (by omega)]; omega
            have a4 : IntKind.i64.wrap (16 * (r + 2 * q)) = 16 * (r + 2 * q) := by rw [IntKind.wrap_i64]; omega
            have a5 : IntKind.i64.wrap (16 * (r + 2 * q) + 1) = 16 * (r + 2 * q) + 1 := by rw [IntKind.wrap_i64]; omega
            go_wp2
            go_ret
            exact ⟨ret_i (by rw [H.out]; omega), hb1⟩
end Go.Proofs.YtmiakknagjncpaaGreatDoor
