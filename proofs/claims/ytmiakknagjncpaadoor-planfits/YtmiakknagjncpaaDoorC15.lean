/- What the statement PlanFits comes to. -/
import Derived.Test.YtmiakknagjncpaaDoorC11
import Derived.BigQuiet
namespace Go.Proofs.YtmiakknagjncpaaDoor
open Go.RowKit Go.Shelf

theorem top_sum (s : Nat → Sp) (j : Nat) : 0 ≤ sm j (topF s) ∧ sm j (topF s) ≤ 1048576 * j := by
  induction j with
  | zero => exact ⟨Int.le_refl _, Int.le_refl _⟩
  | succ j ih =>
    have := top_bd s j
    have e : sm (j + 1) (topF s) = sm j (topF s) + topF s j := rfl
    omega
/-- The seven numbers of a task at its period, by the six of its description. -/
theorem tgF_of {s : Nat → Sp} {a b : Int} {j : Nat} {cj tj xj mj kj ej : Int} (h : s j = ⟨cj, tj, xj, mj, kj, ej⟩) : tgF s a b j = ⟨cj, tj, xj, mj, kj, ej, prF s a b j⟩ := by unfold tgF; rw [h]

set_option maxHeartbeats 4000000 in
set_option maxRecDepth 100000 in
theorem law_pfits (n : Nat) (s : Nat → Sp) (v : Value) (w : World) (h : Sps w v n s) (hL : Lim w) :
    Calls Tryd.prog 3 #[v] w fun e w' => e = .returned (.bool true) ∧ Below w.heap.size w w' := by
  have HX0 : Hid (Sps w v n s ∧ Lim w) := ⟨h, hL⟩
  obtain ⟨ad, cap, rfl, h1, h2, h0, h3⟩ := h
  clear hL h0
  obtain ⟨a, b, rb, hF⟩ := frT_exists n s
  have HF : Hid (FrT n s a b rb) := hF
  clear hF
  go_enter Tryd.func3, Tryd.ntmps3
  go_wp2_with fail
  refine (awake10_any _ HX0.out.2).mono ?_
  rintro e w1 ⟨rfl, hb1⟩
  have HX1 : Hid (Sps w1 (.slice ad n cap) n s ∧ Lim w1) := ⟨HX0.out.1.later hb1, HX0.out.2.later hb1⟩
  clear HX0
  by_cases hn : (n : Int) > 10
  · clear h3
    go_wp2
    go_ret
    exact ⟨by first | rfl | exact ret_b (by simp) | exact ret_b (decide_eq_true (by omega)) | exact ret_b (by simp; omega), hb1⟩
  · go_wp2_with fail
    refine (target_any n s a b rb _ _ HX1.out.1 HF.out HX1.out.2).mono ?_
    rintro r w2 ⟨y, rfl, hy, hb2⟩
    have HL2 : Hid (Lim w2) := HX1.out.2.later hb2
    replace hb2 := hb1.trans (hb2.mono hb1.size)
    clear hb1 HX1
    rcases err_cases (n := n) (s := s) (a := a) (b := b) (rb := rb) with ⟨hn', he⟩ | ⟨hn', hs, he⟩ | ⟨hn', hs, hr, he⟩ | ⟨hn', hs, hr, ht, he⟩ | ⟨hn', hs, hr, ht, he⟩
    · rw [tg_no (by omega)] at hy
      rw [he]
      obtain ⟨ay, cy, rfl, _⟩ := hy
      have hn2 : (n : Int) > 4 := by omega
      clear he h3
      go_wp2
      go_ret
      exact ⟨by first | rfl | exact ret_b (by simp) | exact ret_b (decide_eq_true (by omega)) | exact ret_b (by simp; omega), hb2⟩
    · rw [tg_no (by omega)] at hy
      rw [he]
      obtain ⟨ay, cy, rfl, _⟩ := hy
      have hn2 : ¬ (n : Int) > 4 := by omega
      clear he h3
      go_wp2
      go_ret
      exact ⟨by first | rfl | exact ret_b (by simp; omega), hb2⟩
    · rw [tg_no (by omega)] at hy
      rw [he]
      obtain ⟨ay, cy, rfl, _⟩ := hy
      have hn2 : ¬ (n : Int) > 4 := by omega
      clear he h3
      go_wp2
      go_ret
      exact ⟨by first | rfl | exact ret_b (by simp; omega), hb2⟩
    · rw [tg_no (by omega)] at hy
      rw [he]
      obtain ⟨ay, cy, rfl, _⟩ := hy
      have hn2 : ¬ (n : Int) > 4 := by omega
      clear he h3
      go_wp2
      go_ret
      exact ⟨by first | rfl | exact ret_b (by simp; omega), hb2⟩
    · subst hr
      rw [tg_ok he] at hy
      rw [he]
      have hI := frT_is HF.out
      have HI : Hid (IsT n s 983040 a b) := hI
      have HS : Hid (spsB n s = true) := hs
      have HM : Hid (may9 n (tgF s a b) = true) := tg_may hn' hs hI
      have HT : Hid (tst9 n (tgF s a b) = true) := ht
      have HY : Hid (Fxs w2 y n (tgF s a b)) := hy
      obtain ⟨ay, cy, rfl, y1, y2, y0, y3⟩ := hy
      clear he ht hs hI HF y0
      go_wp2_with fail
      refine (may9_any n _ _ _ HY.out HL2.out).mono ?_
      rintro r w3 ⟨rfl, hb3⟩
      rw [HM.out]
      have hb3' := hb2.trans (hb3.mono hb2.size)
      go_wp2_with fail
      refine (test9_any n _ _ _ (HY.out.later hb3) (HL2.out.later hb3)).mono ?_
      rintro r w4 ⟨rfl, hb4⟩
      rw [HT.out]
      have hb24 : Below w2.heap.size w2 w4 := hb3.trans (hb4.mono hb3.size)
      have hb04 : Below w.heap.size w w4 := hb2.trans (hb24.mono hb2.size)
      clear hb3 hb3' hb4
      go_wp2_with fail
      go_loopw [6, 7] (fun s6 i wr => ∃ (j : Nat), j ≤ n ∧ i = .int .i64 j ∧ s6 = .int .i64 (sm j (topF s)) ∧ Below w4.heap.size w4 wr) (fun _ i _ => ((n : Int) - intOf i).toNat)
      case atStart => exact ⟨0, by omega, rfl, rfl, Below.refl _ _⟩
      case round =>
        obtain ⟨j, hj, rfl, rfl, hbw⟩ := hrel
        have hq := top_sum s j
        have hbF : Below w2.heap.size w2 wr := hb24.trans (hbw.mono hb24.size)
        have hbW : Below w.heap.size w wr := hb04.trans (hbw.mono hb04.size)
        by_cases hlt : (j : Int) < n
        · obtain ⟨bk, o, rfl, h4⟩ := h3 (by omega)
          obtain ⟨bf, of, rfl, y4⟩ := y3 (by omega)
          have hrowF := row_open (f := tgF s a b j) (fun q hq => y4 j (by omega) q hq)
          have hrow := rowS_open (f := s j) (h4 j (by omega))
          clear h4 h3 y4 y3
          obtain ⟨⟨cj, tj, xj, mj, kj, ej⟩, hf⟩ : ∃ y, s j = y := ⟨_, rfl⟩
          have HF : Hid (s j = ⟨cj, tj, xj, mj, kj, ej⟩) := hf
          rw [hf] at hrow
          clear hf
          obtain ⟨k0, k1, k2, k3, k4, k5⟩ := hrow
          simp only at k0 k1 k2 k3 k4 k5
          have e0 := cell_later hbW k0
          have e1 := cell_later hbW k1
          have e2 := cell_later hbW k2
          have e3 := cell_later hbW k3
          have e4 := cell_later hbW k4
          have e5 := cell_later hbW k5
          have sb := World.block_lt_of_cell? _ _ k0
          clear k0 k1 k2 k3 k4 k5
          have sw := hbW.size
          obtain ⟨_, t1, t2, _⟩ := tg_facts hn' HS.out HI.out (i := j) (by omega)
          have hlb := top_bd s j
          have HE1 : Hid (sm (j + 1) (topF s) = sm j (topF s) + atV ⟨cj, tj, xj, mj, kj, ej⟩ tj) := by show _ = _; show sm j (topF s) + atV (s j) (s j).t = _; rw [HF.out]
          rw [tgF_of HF.out] at hrowF
          unfold topF at hlb
          rw [HF.out] at hlb t1 t2
          simp only at hlb t1 t2
          obtain ⟨pj, hpj⟩ : ∃ p, prF s a b j = p := ⟨_, rfl⟩
          rw [hpj] at hrowF t1 t2
          obtain ⟨A, hA⟩ : ∃ A, atV ⟨cj, tj, xj, mj, kj, ej⟩ tj = A := ⟨_, rfl⟩
          have HA : Hid (atV ⟨cj, tj, xj, mj, kj, ej⟩ tj = A) := hA
          rw [hA] at hlb HE1
          clear hA hpj
          obtain ⟨v0, v1, v2, v3, v4, v5, v6⟩ := hrowF
          simp only at v0 v1 v2 v3 v4 v5 v6
          have MKF : Hid (∀ w' : World, Below w2.heap.size w2 w' → w'.cell? ⟨bf, of + j * 7, none⟩ = some (.int .i64 cj) ∧ w'.cell? ⟨bf, of + j * 7 + 1, none⟩ = some (.int .i64 tj) ∧ w'.cell? ⟨bf, of + j * 7 + 2, none⟩ = some (.int .i64 xj) ∧ w'.cell? ⟨bf, of + j * 7 + 3, none⟩ = some (.int .i64 mj) ∧ w'.cell? ⟨bf, of + j * 7 + 4, none⟩ = some (.int .i64 kj) ∧ w'.cell? ⟨bf, of + j * 7 + 5, none⟩ = some (.int .i64 ej) ∧ w'.cell? ⟨bf, of + j * 7 + 6, none⟩ = some (.int .i64 pj)) := fun w' hb => ⟨cell_later hb v0, cell_later hb v1, cell_later hb v2, cell_later hb v3, cell_later hb v4, cell_later hb v5, cell_later hb v6⟩
          have MKL : Hid (∀ w' : World, Below wr.heap.size wr w' → w'.cell? ⟨bk, o + j * 6, none⟩ = some (.int .i64 cj) ∧ w'.cell? ⟨bk, o + j * 6 + 1, none⟩ = some (.int .i64 tj) ∧ w'.cell? ⟨bk, o + j * 6 + 2, none⟩ = some (.int .i64 xj) ∧ w'.cell? ⟨bk, o + j * 6 + 3, none⟩ = some (.int .i64 mj) ∧ w'.cell? ⟨bk, o + j * 6 + 4, none⟩ = some (.int .i64 kj) ∧ w'.cell? ⟨bk, o + j * 6 + 5, none⟩ = some (.int .i64 ej)) := fun w' hb => ⟨cell_later hb e0, cell_later hb e1, cell_later hb e2, cell_later hb e3, cell_later hb e4, cell_later hb e5⟩
          clear v0 v1 v2 v3 v4 v5 v6
          generalize sm j (topF s) = q at *
          obtain ⟨q0, q1⟩ := hq
          obtain ⟨l0, l1⟩ := hlb
          have a1 : IntKind.i64.wrap (q + A) = q + A := by rw [IntKind.wrap_i64]; omega
          have hN : ∀ w, (binOp .neq 31 (.agg #[.int .i64 cj, .int .i64 tj, .int .i64 xj, .int .i64 mj, .int .i64 kj, .int .i64 ej]) (.agg #[.int .i64 cj, .int .i64 tj, .int .i64 xj, .int .i64 mj, .int .i64 kj, .int .i64 ej])).run Tryd.prog w = .ok (.bool false) w := fun w => by simp [go_sem]
          have d1 : decide (pj < tj) = false := decide_eq_false (by omega)
          have d2 : decide (xj < pj) = false := decide_eq_false (by omega)
          have d3 : decide (pj > xj) = false := decide_eq_false (by omega)
          have i0 : (0 : Int) ≤ (j : Int) := by omega
          go_wp2_with fail
          refine (top_any cj tj xj mj kj ej _).mono ?_
          rintro r w6 ⟨rfl, hb6⟩
          rw [HA.out]
          have MK : Hid (∀ w' : World, Below w6.heap.size w6 w' → ((w'.cell? ⟨bk, o + j * 6, none⟩ = some (.int .i64 cj) ∧ w'.cell? ⟨bk, o + j * 6 + 1, none⟩ = some (.int .i64 tj) ∧ w'.cell? ⟨bk, o + j * 6 + 2, none⟩ = some (.int .i64 xj) ∧ w'.cell? ⟨bk, o + j * 6 + 3, none⟩ = some (.int .i64 mj) ∧ w'.cell? ⟨bk, o + j * 6 + 4, none⟩ = some (.int .i64 kj) ∧ w'.cell? ⟨bk, o + j * 6 + 5, none⟩ = some (.int .i64 ej)) ∧ (w'.cell? ⟨bf, of + j * 7, none⟩ = some (.int .i64 cj) ∧ w'.cell? ⟨bf, of + j * 7 + 1, none⟩ = some (.int .i64 tj) ∧ w'.cell? ⟨bf, of + j * 7 + 2, none⟩ = some (.int .i64 xj) ∧ w'.cell? ⟨bf, of + j * 7 + 3, none⟩ = some (.int .i64 mj) ∧ w'.cell? ⟨bf, of + j * 7 + 4, none⟩ = some (.int .i64 kj) ∧ w'.cell? ⟨bf, of + j * 7 + 5, none⟩ = some (.int .i64 ej) ∧ w'.cell? ⟨bf, of + j * 7 + 6, none⟩ = some (.int .i64 pj))) ∧ Below w6.heap.size w6 w') := fun w' hb => ⟨⟨MKL.out w' (hb6.trans (hb.mono hb6.size)), MKF.out w' ((hbF.trans (hb6.mono hbF.size)).trans (hb.mono (hbF.trans (hb6.mono hbF.size)).size))⟩, hb⟩
          have HB6 : Hid (Below w4.heap.size w4 w6) := hbw.trans (hb6.mono hbw.size)
          clear MKL MKF e0 e1 e2 e3 e4 e5 hb6 hbF hbW
          go_wp2_with fail
          go_region_held3 (fun w' => ((w'.cell? ⟨bk, o + j * 6, none⟩ = some (.int .i64 cj) ∧ w'.cell? ⟨bk, o + j * 6 + 1, none⟩ = some (.int .i64 tj) ∧ w'.cell? ⟨bk, o + j * 6 + 2, none⟩ = some (.int .i64 xj) ∧ w'.cell? ⟨bk, o + j * 6 + 3, none⟩ = some (.int .i64 mj) ∧ w'.cell? ⟨bk, o + j * 6 + 4, none⟩ = some (.int .i64 kj) ∧ w'.cell? ⟨bk, o + j * 6 + 5, none⟩ = some (.int .i64 ej)) ∧ (w'.cell? ⟨bf, of + j * 7, none⟩ = some (.int .i64 cj) ∧ w'.cell? ⟨bf, of + j * 7 + 1, none⟩ = some (.int .i64 tj) ∧ w'.cell? ⟨bf, of + j * 7 + 2, none⟩ = some (.int .i64 xj) ∧ w'.cell? ⟨bf, of + j * 7 + 3, none⟩ = some (.int .i64 mj) ∧ w'.cell? ⟨bf, of + j * 7 + 4, none⟩ = some (.int .i64 kj) ∧ w'.cell? ⟨bf, of + j * 7 + 5, none⟩ = some (.int .i64 ej) ∧ w'.cell? ⟨bf, of + j * 7 + 6, none⟩ = some (.int .i64 pj))) ∧ Below w6.heap.size w6 w')
            (exact MK.out _ (Below.refl _ _).drew)
            (fail)
          all_goals
            go_wp2_with fail
            go_roundw
            case rel => exact ⟨j + 1, by omega, by go_num, by rw [HE1.out], HB6.out.trans ((sBel (by assumption)).mono HB6.out.size)⟩
            case measure => simp [intOf]; omega
        · obtain rfl : j = n := by omega
          have HQ : Hid (sm j (topF s) ≤ 983040 → ∀ i, i < j → prF s a b i = (s i).t) := fun hl i hi => (tg_least hn' HS.out HI.out hl hi).2
          generalize sm j (topF s) = q at *
          by_cases hl : q ≤ 983040
          · replace HQ : Hid (∀ i, i < j → prF s a b i = (s i).t) := HQ.out hl
            go_wp2_with fail
            go_loopw [8] (fun i wx => ∃ (t : Nat), t ≤ j ∧ i = .int .i64 t ∧ Below wr.heap.size wr wx) (fun i _ => ((j : Int) - intOf i).toNat)
            case atStart => exact ⟨0, by omega, rfl, Below.refl _ _⟩
            case round =>
              obtain ⟨t, ht, rfl, hbx⟩ := hrel
              have hbX : Below w.heap.size w wr := hbW.trans (hbx.mono hbW.size)
              have hbG : Below w2.heap.size w2 wr := hbF.trans (hbx.mono hbF.size)
              by_cases hlt2 : (t : Int) < j
              · obtain ⟨bk, o, rfl, h4⟩ := h3 (by omega)
                obtain ⟨bf, of, rfl, y4⟩ := y3 (by omega)
                have c1 : wr.cell? ⟨bk, o + t * 6 + 1, none⟩ = some (.int .i64 (s t).t) := cell_later hbX (h4 t (by omega) 1 (by omega))
                have c6 : wr.cell? ⟨bf, of + t * 7 + 6, none⟩ = some (.int .i64 (prF s a b t)) := cell_later hbG (y4 t (by omega) 6 (by omega))
                rw [HQ.out t (by omega)] at c6
                clear h4 h3 y4 y3
                generalize (s t).t = z at *
                go_wp2_with fail
                go_region
                all_goals
                  go_wp2_with fail
                  go_roundw
                  case rel => exact ⟨t + 1, by omega, by go_num, hbx.drew⟩
                  case measure => simp [intOf]; omega
              · go_wp2
                go_ret
                exact ⟨by first | rfl | exact ret_b (by simp) | exact ret_b (decide_eq_true (by omega)) | exact ret_b (by simp; omega), hbX⟩
          · go_wp2_with fail
            go_loopw [8] (fun i wx => i = .int .i64 0 ∧ Below wr.heap.size wr wx) (fun _ _ => 0)
            case atStart => exact ⟨rfl, Below.refl _ _⟩
            case round =>
              obtain ⟨rfl, hbx⟩ := hrel
              have hbX : Below w.heap.size w wr := hbW.trans (hbx.mono hbW.size)
              by_cases hz : (0 : Int) < j
              · go_wp2
                go_ret
                exact ⟨by first | rfl | exact ret_b (by simp) | exact ret_b (decide_eq_true (by omega)) | exact ret_b (by simp; omega), hbX⟩
              · exfalso
                omega
end Go.Proofs.YtmiakknagjncpaaDoor
