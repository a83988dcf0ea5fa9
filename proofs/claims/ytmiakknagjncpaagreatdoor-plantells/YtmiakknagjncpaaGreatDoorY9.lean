/- Texts that belong together, one behind the other: D9, D10. -/
import Derived.Test.YtmiakknagjncpaaGreatDoorY8
import Derived.Test.YtmiakknagjncpaaGreatDoorY2
/- Walks of the document's own answers of chapter 9: May, Horizon, First, Test. -/
namespace Go.Proofs.YtmiakknagjncpaaGreatDoor
open Go.RowKit Go.Shelf

set_option maxHeartbeats 2000000 in
set_option maxRecDepth 100000 in
theorem rmayL_any (l : Nat) (f : Nat → Fx) (v : Value) (w : World) (h : Fxs w v l f) (hl : l ≤ 1100) :
    Calls Tryz.prog 34 #[v] w fun r w' => r = .returned (.bool (may9 l f)) ∧ Below w.heap.size w w' := by
  obtain ⟨a, cap, rfl, h1, h2, h0, h3⟩ := h
  go_enter Tryz.func34, Tryz.ntmps34
  go_wp2_with fail
  go_loopw [3, 4] (fun s i wr => ∃ (j : Nat) (z : Int), j ≤ l ∧ i = .int .i64 j ∧ s = .int .i64 z ∧ 0 ≤ z ∧ z ≤ j * 1048576 ∧ Hid (z = sm j (uns f)) ∧ Hid (∀ i, i < j → knB (f i) = true) ∧ Below w.heap.size w wr) (fun _ i _ => ((l : Int) - intOf i).toNat)
  case atStart => exact ⟨0, 0, by omega, rfl, rfl, by omega, by omega, rfl, fun i hi => by omega, Below.refl _ _⟩
  case round =>
    obtain ⟨j, z, hj, rfl, rfl, z0, z1, HZ, HK, hbw⟩ := hrel
    by_cases hlt : (j : Int) < l
    · obtain ⟨bk, o, rfl, h4⟩ := h3 (by omega)
      have hrow := row_open (f := f j) (h4 j (by omega))
      clear h4 h3
      obtain ⟨⟨cj, tj, xj, mj, kj, ej, pj⟩, hf⟩ : ∃ y, f j = y := ⟨_, rfl⟩
      have HF : Hid (f j = ⟨cj, tj, xj, mj, kj, ej, pj⟩) := hf
      rw [hf] at hrow
      clear hf
      obtain ⟨k0, k1, k2, k3, k4, k5, k6⟩ := hrow
      simp only at k0 k1 k2 k3 k4 k5 k6
      have e0 := cell_later hbw k0
      have e1 := cell_later hbw k1
      have e2 := cell_later hbw k2
      have e3 := cell_later hbw k3
      have e4 := cell_later hbw k4
      have e5 := cell_later hbw k5
      have e6 := cell_later hbw k6
      have sb := World.block_lt_of_cell? _ _ k0
      clear k0 k1 k2 k3 k4 k5 k6
      have sw := hbw.size
      cases hk : knB ⟨cj, tj, xj, mj, kj, ej, pj⟩ with
      | false =>
        have H1 : Hid (knB ⟨cj, tj, xj, mj, kj, ej, pj⟩ = false) := hk
        have H : Hid (may9 l f = false) := may9_kn (knAll_no (i := j) (by omega) (by rw [HF.out]; exact hk))
        clear hk
        go_wp2_with fail
        refine (rmay9_any cj tj xj mj kj ej pj _).mono ?_
        rintro r w2 ⟨rfl, hb2⟩
        rw [H1.out]
        go_wp2_with fail
        go_ret
        exact ⟨ret_b H.out.symm, hbw.trans (hb2.mono sw)⟩
      | true =>
        have H1 : Hid (knB ⟨cj, tj, xj, mj, kj, ej, pj⟩ = true) := hk
        have HK2 : Hid (∀ i, i < j + 1 → knB (f i) = true) := by
          intro i hi
          by_cases c : i = j
          · subst c; rw [HF.out]; exact hk
          · exact HK.out i (by omega)
        obtain ⟨y0, y1⟩ := un_bd hk
        have HS : Hid (z + atV ⟨cj, tj, xj, mj, kj, ej⟩ pj = sm (j + 1) (uns f)) := by show _ = sm j (uns f) + uns f j; rw [← HZ.out]; unfold uns; rw [HF.out]; rfl
        obtain ⟨y, hy⟩ : ∃ y, atV ⟨cj, tj, xj, mj, kj, ej⟩ pj = y := ⟨_, rfl⟩
        unfold Fx.sp at y0 y1
        simp only at y0 y1
        rw [hy] at y0 y1 HS
        have HAT : Hid (∀ w' : World, Calls Tryz.prog 39 #[.agg #[.int .i64 cj, .int .i64 tj, .int .i64 xj, .int .i64 mj, .int .i64 kj, .int .i64 ej], .int .i64 pj] w' fun r w'' => r = .returned (.int .i64 y) ∧ Below w'.heap.size w' w'') := fun w' => hy ▸ refAt_any cj tj xj mj kj ej pj w'
        have hwy : IntKind.i64.wrap (z + y) = z + y := by rw [IntKind.wrap_i64]; omega
        clear hk hy
        go_wp2_with fail
        refine (rmay9_any cj tj xj mj kj ej pj _).mono ?_
        rintro r w2 ⟨rfl, hb2⟩
        rw [H1.out]
        have d0 := cell_later hb2 e0
        have d1 := cell_later hb2 e1
        have d2 := cell_later hb2 e2
        have d3 := cell_later hb2 e3
        have d4 := cell_later hb2 e4
        have d5 := cell_later hb2 e5
        have d6 := cell_later hb2 e6
        replace hb2 : Below w.heap.size w w2 := hbw.trans (hb2.mono sw)
        clear e0 e1 e2 e3 e4 e5 e6 hbw
        have MK : Hid (∀ w' : World, Below w2.heap.size w2 w' → (w'.cell? ⟨bk, o + j * 7, none⟩ = some (.int .i64 cj) ∧ w'.cell? ⟨bk, o + j * 7 + 1, none⟩ = some (.int .i64 tj) ∧ w'.cell? ⟨bk, o + j * 7 + 2, none⟩ = some (.int .i64 xj) ∧ w'.cell? ⟨bk, o + j * 7 + 3, none⟩ = some (.int .i64 mj) ∧ w'.cell? ⟨bk, o + j * 7 + 4, none⟩ = some (.int .i64 kj) ∧ w'.cell? ⟨bk, o + j * 7 + 5, none⟩ = some (.int .i64 ej) ∧ w'.cell? ⟨bk, o + j * 7 + 6, none⟩ = some (.int .i64 pj)) ∧ Below w2.heap.size w2 w') := fun w' hb => ⟨⟨cell_later hb d0, cell_later hb d1, cell_later hb d2, cell_later hb d3, cell_later hb d4, cell_later hb d5, cell_later hb d6⟩, hb⟩
        clear d0 d1 d2 d3 d4 d5 d6
        go_wp2_with fail
        go_region_held3 (fun w' => (w'.cell? ⟨bk, o + j * 7, none⟩ = some (.int .i64 cj) ∧ w'.cell? ⟨bk, o + j * 7 + 1, none⟩ = some (.int .i64 tj) ∧ w'.cell? ⟨bk, o + j * 7 + 2, none⟩ = some (.int .i64 xj) ∧ w'.cell? ⟨bk, o + j * 7 + 3, none⟩ = some (.int .i64 mj) ∧ w'.cell? ⟨bk, o + j * 7 + 4, none⟩ = some (.int .i64 kj) ∧ w'.cell? ⟨bk, o + j * 7 + 5, none⟩ = some (.int .i64 ej) ∧ w'.cell? ⟨bk, o + j * 7 + 6, none⟩ = some (.int .i64 pj)) ∧ Below w2.heap.size w2 w')
          (first | exact MK.out _ (bstep (by assumption) (sBel (by assumption))) | exact MK.out _ (Below.refl _ _).drew)
          (first
          | (go_at_call 39; refine (HAT.out _).mono ?_; rintro r w3 ⟨rfl, hb3⟩))
        all_goals
          have hb : Below w.heap.size w _ := hb2.trans ((sBel (by assumption)).mono hb2.size)
          go_wp2_with fail
          go_roundw
          case rel => exact ⟨j + 1, z + y, by omega, by go_num, by go_num, by omega, by omega, HS.out, HK2.out, hb⟩
          case measure => simp [intOf]; omega
    · obtain rfl : j = l := by omega
      have hka : knAll j f = true := knAll_yes HK.out
      have HM : Hid (may9 j f = (decide (j ≤ 4) && decide (z ≤ 983040))) := by
        show _ = _
        unfold may9
        rw [hka, ← HZ.out]; rfl
      clear hka
      by_cases c4 : (j : Int) ≤ 4
      · have HM2 : Hid (may9 j f = decide (z ≤ 983040)) := by show _ = _; rw [HM.out, decide_eq_true (show j ≤ 4 by omega)]; rfl
        go_wp2
        go_ret
        exact ⟨ret_b HM2.out.symm, hbw⟩
      · have HM2 : Hid (may9 j f = false) := by show _ = _; rw [HM.out, decide_eq_false (show ¬ j ≤ 4 by omega)]; rfl
        go_wp2
        go_ret
        exact ⟨ret_b HM2.out.symm, hbw⟩

set_option maxHeartbeats 2000000 in
set_option maxRecDepth 100000 in
theorem rhor9_any (l : Nat) (f : Nat → Fx) (v : Value) (w : World) (h : Fxs w v l f) (hl : l ≤ 1100) :
    Calls Tryz.prog 73 #[v] w fun r w' => r = .returned (.int .i64 (hor9 l f)) ∧ Below w.heap.size w w' := by
  have HMay := rmayL_any l f v w h hl
  obtain ⟨a, cap, rfl, h1, h2, h0, h3⟩ := h
  cases hm : may9 l f with
  | false =>
    have HM : Hid (may9 l f = false) := hm
    have H : Hid (hor9 l f = 0) := hor9_no hm
    clear hm
    go_enter Tryz.func73, Tryz.ntmps73
    go_wp2_with fail
    refine HMay.mono ?_
    rintro r w1 ⟨rfl, hb1⟩
    rw [HM.out]
    go_wp2_with fail
    go_ret
    exact ⟨ret_i H.out.symm, hb1⟩
  | true =>
    have HM : Hid (may9 l f = true) := hm
    have H : Hid (hor9 l f = 16 * sm l (csF f)) := hor9_yes hm
    obtain ⟨l4, hk, _⟩ := may9_facts hm
    have HC : Hid (∀ j, j ≤ l → 0 ≤ sm j (csF f) ∧ sm j (csF f) ≤ j * 6) := cs_bd hk
    clear hm hk
    go_enter Tryz.func73, Tryz.ntmps73
    go_wp2_with fail
    refine HMay.mono ?_
    rintro r w1 ⟨rfl, hb1⟩
    rw [HM.out]
    clear HMay
    go_wp2_with fail
    go_loopw [4, 5] (fun s i wr => ∃ (j : Nat) (z : Int), j ≤ l ∧ i = .int .i64 j ∧ s = .int .i64 z ∧ 0 ≤ z ∧ z ≤ j * 6 ∧ Hid (z = sm j (csF f)) ∧ Below w.heap.size w wr) (fun _ i _ => ((l : Int) - intOf i).toNat)
    case atStart => exact ⟨0, 0, by omega, rfl, rfl, by omega, by omega, rfl, hb1⟩
    case round =>
      obtain ⟨j, z, hj, rfl, rfl, z0, z1, HZ, hbw⟩ := hrel
      by_cases hlt : (j : Int) < l
      · obtain ⟨bk, o, rfl, h4⟩ := h3 (by omega)
        have hrow := row_open (f := f j) (h4 j (by omega))
        clear h4 h3
        obtain ⟨⟨cj, tj, xj, mj, kj, ej, pj⟩, hf⟩ : ∃ y, f j = y := ⟨_, rfl⟩
        have HF : Hid (f j = ⟨cj, tj, xj, mj, kj, ej, pj⟩) := hf
        rw [hf] at hrow
        clear hf
        obtain ⟨k0, k1, k2, k3, k4, k5, k6⟩ := hrow
        simp only at k0 k1 k2 k3 k4 k5 k6
        have e0 := cell_later hbw k0
        have e1 := cell_later hbw k1
        have e2 := cell_later hbw k2
        have e3 := cell_later hbw k3
        have e4 := cell_later hbw k4
        have e5 := cell_later hbw k5
        have e6 := cell_later hbw k6
        have sb := World.block_lt_of_cell? _ _ k0
        clear k0 k1 k2 k3 k4 k5 k6
        have sw := hbw.size
        have HS : Hid (z + cj = sm (j + 1) (csF f)) := by show _ = sm j (csF f) + csF f j; rw [← HZ.out]; unfold csF; rw [HF.out]
        have hc := HC.out (j + 1) (by omega)
        rw [← HS.out] at hc
        obtain ⟨y0, y1⟩ := hc
        go_wp2_with fail
        go_roundw
        case rel => exact ⟨j + 1, z + cj, by omega, by go_num, by go_num, by omega, by omega, HS.out, hbw⟩
        case measure => simp [intOf]; omega
      · obtain rfl : j = l := by omega
        go_wp2
        go_ret
        exact ⟨ret_i (by rw [H.out, ← HZ.out]; omega), hbw⟩

set_option maxHeartbeats 2000000 in
set_option maxRecDepth 100000 in
theorem rfirst9_any (l : Nat) (f : Nat → Fx) (v : Value) (w : World) (h : Fxs w v l f) (hl : l ≤ 1100) :
    Calls Tryz.prog 52 #[v] w fun r w' => r = .returned (.int .i64 (first9 l f)) ∧ Below w.heap.size w w' := by
  have HF : Hid (Fxs w v l f) := h
  obtain ⟨g0, g1⟩ := hor9_nonneg l f
  obtain ⟨h9, hh⟩ : ∃ h9, hor9 l f = h9 := ⟨_, rfl⟩
  have HH : Hid (hor9 l f = h9) := hh
  rw [hh] at g0 g1
  clear hh
  have HHor := rhor9_any l f v w h hl
  clear h
  go_enter Tryz.func52, Tryz.ntmps52
  go_wp2_with fail
  refine HHor.mono ?_
  rintro r9 w1 ⟨rfl, hb1⟩
  rw [HH.out]
  clear HHor
  go_wp2_with fail
  go_loopw [4] (fun i wr => ∃ (z : Int), 1 ≤ z ∧ z ≤ 385 ∧ i = .int .i64 z ∧ Hid (∀ i, 1 ≤ i → i < z → allV9 l f i ≤ i) ∧ Below w.heap.size w wr) (fun i _ => (386 - intOf i).toNat)
  case atStart => exact ⟨1, by omega, by omega, rfl, fun i i0 i1 => by omega, hb1⟩
  case round =>
    obtain ⟨z, z0, z1, rfl, HZ, hbw⟩ := hrel
    by_cases hlt : z < h9
    · go_wp2_with fail
      refine (rall9_any l f z v _ (HF.out.later hbw)).mono ?_
      rintro r9 w5 ⟨rfl, hb5⟩
      replace hb5 : Below w.heap.size w w5 := hbw.trans (hb5.mono hbw.size)
      obtain ⟨y, hy⟩ : ∃ y, allV9 l f z = y := ⟨_, rfl⟩
      have HY : Hid (allV9 l f z = y) := hy
      rw [hy]
      clear hy
      by_cases c2 : y > z
      · have HR : Hid (first9 l f = z) := first9_eq (by rw [HH.out]; exact .inr ⟨z0, hlt, by rw [HY.out]; exact c2, HZ.out⟩)
        go_wp2_with fail
        go_ret
        exact ⟨ret_i HR.out.symm, hb5⟩
      · have HZ2 : Hid (∀ i, 1 ≤ i → i < z + 1 → allV9 l f i ≤ i) := by
          intro i i0 i1
          by_cases c : i = z
          · subst c; rw [HY.out]; omega
          · exact HZ.out i i0 (by omega)
        go_wp2_with fail
        go_roundw
        case rel => exact ⟨z + 1, by omega, by omega, by go_num, HZ2.out, hb5⟩
        case measure => simp [intOf]; omega
    · have HR : Hid (first9 l f = 0) := first9_eq (by rw [HH.out]; exact .inl ⟨rfl, fun i i0 i1 => HZ.out i i0 (by omega)⟩)
      go_wp2_with fail
      go_ret
      exact ⟨ret_i HR.out.symm, hbw⟩

set_option maxHeartbeats 2000000 in
set_option maxRecDepth 100000 in
theorem rtest9_any (l : Nat) (f : Nat → Fx) (v : Value) (w : World) (h : Fxs w v l f) (hl : l ≤ 1100) :
    Calls Tryz.prog 31 #[v] w fun r w' => r = .returned (.bool (tst9 l f)) ∧ Below w.heap.size w w' := by
  cases hm : may9 l f with
  | false =>
    have HM : Hid (may9 l f = false) := hm
    have H : Hid (tst9 l f = false) := by show _ = _; unfold tst9; rw [hm]; rfl
    clear hm
    go_enter Tryz.func31, Tryz.ntmps31
    go_wp2_with fail
    refine (rmayL_any l f v _ h hl).mono ?_
    rintro r w1 ⟨rfl, hb1⟩
    rw [HM.out]
    go_wp2_with fail
    go_ret
    exact ⟨ret_b H.out.symm, hb1⟩
  | true =>
    have HM : Hid (may9 l f = true) := hm
    have H : Hid (tst9 l f = decide (first9 l f = 0)) := by show _ = _; unfold tst9; rw [hm]; rfl
    clear hm
    go_enter Tryz.func31, Tryz.ntmps31
    go_wp2_with fail
    refine (rmayL_any l f v _ h hl).mono ?_
    rintro r w1 ⟨rfl, hb1⟩
    rw [HM.out]
    go_wp2_with fail
    refine (rfirst9_any l f v _ (h.later hb1) hl).mono ?_
    rintro r w2 ⟨rfl, hb2⟩
    go_wp2_with fail
    go_ret
    exact ⟨ret_b (by rw [H.out]; first | rfl | simp), hb1.trans (hb2.mono hb1.size)⟩
end Go.Proofs.YtmiakknagjncpaaGreatDoor
/- The chapter's example of chapter 9. -/
namespace Go.Proofs.YtmiakknagjncpaaGreatDoor
open Go.RowKit Go.Shelf
/-- One task alone that may be passes. -/
theorem tst_one {f : Nat → Fx} (h : may9 1 f = true) : tst9 1 f = true :=
  tst_iff.2 ⟨h, fun n n0 _ => by
    have := (of_bd (f 0) n).2.2 n0
    show 0 + ofV9 (f 0) n ≤ n
    omega⟩
end Go.Proofs.YtmiakknagjncpaaGreatDoor
