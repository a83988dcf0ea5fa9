/- The walks of the statements PatTurns, PatSpread and PatSum: each returns true, and writes nothing that was there. -/
import Derived.Test.YtigaboifjhkfmaaA2
import Derived.Test.YtigaboifjhkfmaaM1
namespace Go.Proofs.Ytigaboifjhkfmaa
open Go.RowKit

set_option maxHeartbeats 1000000 in
set_option maxRecDepth 100000 in
theorem law_turns (m k j : Int) (w : World) :
    Calls Try.prog 7 #[.int .i64 m, .int .i64 k, .int .i64 j] w fun e w' => e = .returned (.bool true) ∧ Below w.heap.size w w' := by
  cases h1 : mayB m k
  · have H1 : Hid (mayB m k = false) := h1
    clear h1
    go_enter Try.func7, Try.ntmps7
    go_wp2_with fail
    refine (awake2_any _).mono ?_
    rintro e w1 ⟨rfl, hb1⟩
    go_wp2_with fail
    refine (may_any m k _).mono ?_
    rintro e w2 ⟨rfl, rfl⟩
    rw [H1.out]
    go_wp2
    go_ret
    exact ⟨rfl, hb1⟩
  · have H1 : Hid (mayB m k = true) := h1
    obtain ⟨m0, mk, k6⟩ := mayB_of h1
    clear h1
    by_cases c : 0 ≤ j ∧ j ≤ 1000000000000
    · obtain ⟨c0, c1⟩ := c
      have HA : Hid (onB m k j = adB m k j) := onB_in m0 mk k6 c0 (by omega)
      have HT : Hid (onB m k (j + k) = adB m k j) := (onB_in m0 mk k6 (by omega) (by omega)).trans (adB_turn m0 mk k6)
      by_cases ck : m = k
      · subst ck
        have HL : Hid (adB m m j = true) := adB_all m0 k6
        by_cases c1' : m = 1
        · subst c1'
          have HM : Hid (adB 1 1 j = (j % 1 == 0)) := adB_one (by omega) (by omega)
          have E : (j % 1 == 0) = true := by simp
          go_enter Try.func7, Try.ntmps7
          go_wp2_with fail
          refine (awake2_any _).mono ?_
          rintro e w1 ⟨rfl, hb1⟩
          go_wp2_with fail
          refine (may_any _ _ _).mono ?_
          rintro e w2 ⟨rfl, rfl⟩
          rw [H1.out]
          go_wp2_with fail
          refine (on_any _ _ _ _).mono ?_
          rintro e w3 ⟨rfl, hb3⟩
          rw [HA.out, HL.out]
          go_wp2_with fail
          refine (on_any _ _ _ _).mono ?_
          rintro e w4 ⟨rfl, hb4⟩
          rw [HT.out, HL.out]
          have s1 := hb1.size
          have s3 := hb3.size
          go_wp2
          go_ret
          exact ⟨rfl, hb1.trans ((hb3.mono (by omega)).trans (hb4.mono (by omega)))⟩
        · go_enter Try.func7, Try.ntmps7
          go_wp2_with fail
          refine (awake2_any _).mono ?_
          rintro e w1 ⟨rfl, hb1⟩
          go_wp2_with fail
          refine (may_any _ _ _).mono ?_
          rintro e w2 ⟨rfl, rfl⟩
          rw [H1.out]
          go_wp2_with fail
          refine (on_any _ _ _ _).mono ?_
          rintro e w3 ⟨rfl, hb3⟩
          rw [HA.out, HL.out]
          go_wp2_with fail
          refine (on_any _ _ _ _).mono ?_
          rintro e w4 ⟨rfl, hb4⟩
          rw [HT.out, HL.out]
          have s1 := hb1.size
          have s3 := hb3.size
          go_wp2
          go_ret
          exact ⟨rfl, hb1.trans ((hb3.mono (by omega)).trans (hb4.mono (by omega)))⟩
      · by_cases c1' : m = 1
        · subst c1'
          have HM : Hid (adB 1 k j = (j % k == 0)) := adB_one (by omega) (by omega)
          cases E : (j % k == 0)
          · have HF : Hid (adB 1 k j = false) := HM.out.trans E
            go_enter Try.func7, Try.ntmps7
            go_wp2_with fail
            refine (awake2_any _).mono ?_
            rintro e w1 ⟨rfl, hb1⟩
            go_wp2_with fail
            refine (may_any _ _ _).mono ?_
            rintro e w2 ⟨rfl, rfl⟩
            rw [H1.out]
            go_wp2_with fail
            refine (on_any _ _ _ _).mono ?_
            rintro e w3 ⟨rfl, hb3⟩
            rw [HA.out, HF.out]
            go_wp2_with fail
            refine (on_any _ _ _ _).mono ?_
            rintro e w4 ⟨rfl, hb4⟩
            rw [HT.out, HF.out]
            have s1 := hb1.size
            have s3 := hb3.size
            go_wp2
            go_ret
            exact ⟨rfl, hb1.trans ((hb3.mono (by omega)).trans (hb4.mono (by omega)))⟩
          · have HF : Hid (adB 1 k j = true) := HM.out.trans E
            go_enter Try.func7, Try.ntmps7
            go_wp2_with fail
            refine (awake2_any _).mono ?_
            rintro e w1 ⟨rfl, hb1⟩
            go_wp2_with fail
            refine (may_any _ _ _).mono ?_
            rintro e w2 ⟨rfl, rfl⟩
            rw [H1.out]
            go_wp2_with fail
            refine (on_any _ _ _ _).mono ?_
            rintro e w3 ⟨rfl, hb3⟩
            rw [HA.out, HF.out]
            go_wp2_with fail
            refine (on_any _ _ _ _).mono ?_
            rintro e w4 ⟨rfl, hb4⟩
            rw [HT.out, HF.out]
            have s1 := hb1.size
            have s3 := hb3.size
            go_wp2
            go_ret
            exact ⟨rfl, hb1.trans ((hb3.mono (by omega)).trans (hb4.mono (by omega)))⟩
        · obtain ⟨b, hb⟩ : ∃ b, adB m k j = b := ⟨_, rfl⟩
          have HF : Hid (adB m k j = b) := hb
          clear hb
          go_enter Try.func7, Try.ntmps7
          go_wp2_with fail
          refine (awake2_any _).mono ?_
          rintro e w1 ⟨rfl, hb1⟩
          go_wp2_with fail
          refine (may_any _ _ _).mono ?_
          rintro e w2 ⟨rfl, rfl⟩
          rw [H1.out]
          go_wp2_with fail
          refine (on_any _ _ _ _).mono ?_
          rintro e w3 ⟨rfl, hb3⟩
          rw [HA.out, HF.out]
          go_wp2_with fail
          refine (on_any _ _ _ _).mono ?_
          rintro e w4 ⟨rfl, hb4⟩
          rw [HT.out, HF.out]
          have s1 := hb1.size
          have s3 := hb3.size
          cases b <;> go_wp2 <;> go_ret <;> exact ⟨rfl, hb1.trans ((hb3.mono (by omega)).trans (hb4.mono (by omega)))⟩
    · have C : Hid (¬ (0 ≤ j ∧ j ≤ 1000000000000)) := c
      clear c
      go_enter Try.func7, Try.ntmps7
      go_wp2_with fail
      refine (awake2_any _).mono ?_
      rintro e w1 ⟨rfl, hb1⟩
      go_wp2_with fail
      refine (may_any _ _ _).mono ?_
      rintro e w2 ⟨rfl, rfl⟩
      rw [H1.out]
      go_wp2_with fail
      all_goals first
        | (go_ret; exact ⟨rfl, hb1⟩)
        | (exfalso; have := C.out; omega)

set_option maxHeartbeats 1000000 in
set_option maxRecDepth 100000 in
theorem law_spread (m k a b n : Int) (w : World) :
    Calls Try.prog 9 #[.int .i64 m, .int .i64 k, .int .i64 a, .int .i64 b, .int .i64 n] w fun e w' => e = .returned (.bool true) ∧ Below w.heap.size w w' := by
  cases h1 : mayB m k
  · have H1 : Hid (mayB m k = false) := h1
    clear h1
    go_enter Try.func9, Try.ntmps9
    go_wp2_with fail
    refine (awake2_any _).mono ?_
    rintro e w1 ⟨rfl, hb1⟩
    go_wp2_with fail
    refine (may_any m k _).mono ?_
    rintro e w2 ⟨rfl, rfl⟩
    rw [H1.out]
    go_wp2
    go_ret
    exact ⟨rfl, hb1⟩
  · have H1 : Hid (mayB m k = true) := h1
    obtain ⟨m0, mk, k6⟩ := mayB_of h1
    clear h1
    by_cases c : 0 ≤ a ∧ 0 ≤ b ∧ 0 ≤ n ∧ a ≤ 1099511627776 ∧ b ≤ 1099511627776 ∧ n ≤ 1099511627776
    · obtain ⟨a0, b0, n0, a1, b1, n1⟩ := c
      have HA : Hid (cntV m k a n = du m k (a + n) - du m k a) := cntV_in m0 mk k6 a0 a1 n0 n1
      have HB : Hid (cntV m k b n = du m k (b + n) - du m k b) := cntV_in m0 mk k6 b0 b1 n0 n1
      obtain ⟨p1, p2⟩ := du_add (a := a) (b := n) m0 mk k6
      obtain ⟨q1, q2⟩ := du_add (a := b) (b := n) m0 mk k6
      obtain ⟨r1, r2⟩ := du_bd m0 mk k6 n0 n1
      obtain ⟨x, hx⟩ : ∃ x, cntV m k a n = x := ⟨_, rfl⟩
      obtain ⟨y, hy⟩ : ∃ y, cntV m k b n = y := ⟨_, rfl⟩
      have x1 : du m k n - 1 ≤ x ∧ x ≤ du m k n := by have := HA.out; omega
      have y1 : du m k n - 1 ≤ y ∧ y ≤ du m k n := by have := HB.out; omega
      obtain ⟨x1, x2⟩ := x1
      obtain ⟨y1, y2⟩ := y1
      have HX : Hid (cntV m k a n = x) := hx
      have HY : Hid (cntV m k b n = y) := hy
      clear hx hy p1 p2 q1 q2
      go_enter Try.func9, Try.ntmps9
      go_wp2_with fail
      refine (awake2_any _).mono ?_
      rintro e w1 ⟨rfl, hb1⟩
      go_wp2_with fail
      refine (may_any _ _ _).mono ?_
      rintro e w2 ⟨rfl, rfl⟩
      rw [H1.out]
      go_wp2_with fail
      refine (count_any m k a n _).mono ?_
      rintro e w3 ⟨rfl, hb3⟩
      rw [HX.out]
      go_wp2_with fail
      refine (count_any m k b n _).mono ?_
      rintro e w4 ⟨rfl, hb4⟩
      rw [HY.out]
      have s1 := hb1.size
      have s3 := hb3.size
      go_wp2
      go_ret
      exact ⟨ret_b (decide_eq_true (by omega)), hb1.trans ((hb3.mono (by omega)).trans (hb4.mono (by omega)))⟩
    · have C : Hid (¬ (0 ≤ a ∧ 0 ≤ b ∧ 0 ≤ n ∧ a ≤ 1099511627776 ∧ b ≤ 1099511627776 ∧ n ≤ 1099511627776)) := c
      clear c
      go_enter Try.func9, Try.ntmps9
      go_wp2_with fail
      refine (awake2_any _).mono ?_
      rintro e w1 ⟨rfl, hb1⟩
      go_wp2_with fail
      refine (may_any _ _ _).mono ?_
      rintro e w2 ⟨rfl, rfl⟩
      rw [H1.out]
      go_wp2_with fail
      all_goals first
        | (go_ret; exact ⟨rfl, hb1⟩)
        | (exfalso; have := C.out; omega)

set_option maxHeartbeats 1000000 in
set_option maxRecDepth 100000 in
theorem law_sum (m k f a b : Int) (w : World) :
    Calls Try.prog 6 #[.int .i64 m, .int .i64 k, .int .i64 f, .int .i64 a, .int .i64 b] w fun e w' => e = .returned (.bool true) ∧ Below w.heap.size w w' := by
  cases h1 : mayB m k
  · have H1 : Hid (mayB m k = false) := h1
    clear h1
    go_enter Try.func6, Try.ntmps6
    go_wp2_with fail
    refine (awake2_any _).mono ?_
    rintro e w1 ⟨rfl, hb1⟩
    go_wp2_with fail
    refine (may_any m k _).mono ?_
    rintro e w2 ⟨rfl, rfl⟩
    rw [H1.out]
    go_wp2
    go_ret
    exact ⟨rfl, hb1⟩
  · have H1 : Hid (mayB m k = true) := h1
    obtain ⟨m0, mk, k6⟩ := mayB_of h1
    clear h1
    by_cases c : 0 ≤ f ∧ 0 ≤ a ∧ 0 ≤ b ∧ f ≤ 1000000000000 ∧ a ≤ 10000000000 ∧ b ≤ 10000000000
    · obtain ⟨f0, a0, b0, f1, a1, b1⟩ := c
      obtain ⟨d0, d1⟩ := du_bd m0 mk k6 f0 f1
      obtain ⟨d2, d3⟩ := du_bd (c := 1010000000000) m0 mk k6 (show 0 ≤ f + a by omega) (by omega)
      obtain ⟨d4, d5⟩ := du_bd (c := 1020000000000) m0 mk k6 (show 0 ≤ f + (a + b) by omega) (by omega)
      obtain ⟨d6, d7⟩ := du_bd m0 mk k6 a0 a1
      obtain ⟨d8, d9⟩ := du_bd m0 mk k6 b0 b1
      obtain ⟨d10, d11⟩ := du_bd (c := 20000000000) m0 mk k6 (show 0 ≤ a + b by omega) (by omega)
      have g1 := du_mono (a := f) (b := f + a) m0 mk k6 (by omega)
      have g2 := du_mono (a := f + a) (b := f + (a + b)) m0 mk k6 (by omega)
      have g3 := du_mono (a := a) (b := a + b) m0 mk k6 (by omega)
      obtain ⟨g5, g4⟩ := du_add (a := a) (b := b) m0 mk k6
      have HX : Hid (cntV m k f a = du m k (f + a) - du m k f) := cntV_in m0 mk k6 f0 (by omega) a0 (by omega)
      have HY : Hid (cntV m k (f + a) b = du m k (f + (a + b)) - du m k (f + a)) := by show _ = _; rw [cntV_in m0 mk k6 (by omega) (by omega) b0 (by omega), Int.add_assoc]
      have HZ : Hid (cntV m k f (a + b) = du m k (f + (a + b)) - du m k f) := cntV_in m0 mk k6 f0 (by omega) (by omega) (by omega)
      have MA : Hid (mostV m k a = du m k a) := mostV_in m0 mk k6 a0 (by omega)
      have MB : Hid (mostV m k b = du m k b) := mostV_in m0 mk k6 b0 (by omega)
      have MC : Hid (mostV m k (a + b) = du m k (a + b)) := mostV_in m0 mk k6 (by omega) (by omega)
      clear g5
      have E : (du m k (f + (a + b)) - du m k f == du m k (f + a) - du m k f + (du m k (f + (a + b)) - du m k (f + a))) = true := by simp; omega
      go_enter Try.func6, Try.ntmps6
      go_wp2_with fail
      refine (awake2_any _).mono ?_
      rintro e w1 ⟨rfl, hb1⟩
      go_wp2_with fail
      refine (may_any _ _ _).mono ?_
      rintro e w2 ⟨rfl, rfl⟩
      rw [H1.out]
      go_wp2_with fail
      refine (count_any m k f a _).mono ?_
      rintro e w3 ⟨rfl, hb3⟩
      rw [HX.out]
      go_wp2_with fail
      refine (count_any m k (f + a) b _).mono ?_
      rintro e w4 ⟨rfl, hb4⟩
      rw [HY.out]
      go_wp2_with fail
      refine (count_any m k f (a + b) _).mono ?_
      rintro e w5 ⟨rfl, hb5⟩
      rw [HZ.out]
      go_wp2_with fail
      refine (most_any m k (a + b) _).mono ?_
      rintro e w6 ⟨rfl, hb6⟩
      rw [MC.out]
      go_wp2_with fail
      refine (most_any m k a _).mono ?_
      rintro e w7 ⟨rfl, hb7⟩
      rw [MA.out]
      go_wp2_with fail
      refine (most_any m k b _).mono ?_
      rintro e w8 ⟨rfl, hb8⟩
      rw [MB.out]
      go_wp2_with fail
      refine (most_any m k a _).mono ?_
      rintro e w9 ⟨rfl, hb9⟩
      rw [MA.out]
      go_wp2_with fail
      refine (most_any m k (a + b) _).mono ?_
      rintro e w10 ⟨rfl, hb10⟩
      rw [MC.out]
      have s1 := hb1.size
      have s3 := hb3.size
      have s4 := hb4.size
      have s5 := hb5.size
      have s6 := hb6.size
      have s7 := hb7.size
      have s8 := hb8.size
      have s9 := hb9.size
      go_wp2
      go_ret
      exact ⟨rfl, hb1.trans ((hb3.mono (by omega)).trans ((hb4.mono (by omega)).trans ((hb5.mono (by omega)).trans ((hb6.mono (by omega)).trans ((hb7.mono (by omega)).trans ((hb8.mono (by omega)).trans ((hb9.mono (by omega)).trans (hb10.mono (by omega)))))))))⟩
    · have C : Hid (¬ (0 ≤ f ∧ 0 ≤ a ∧ 0 ≤ b ∧ f ≤ 1000000000000 ∧ a ≤ 10000000000 ∧ b ≤ 10000000000)) := c
      clear c
      go_enter Try.func6, Try.ntmps6
      go_wp2_with fail
      refine (awake2_any _).mono ?_
      rintro e w1 ⟨rfl, hb1⟩
      go_wp2_with fail
      refine (may_any _ _ _).mono ?_
      rintro e w2 ⟨rfl, rfl⟩
      rw [H1.out]
      go_wp2_with fail
      all_goals first
        | (go_ret; exact ⟨rfl, hb1⟩)
        | (exfalso; have := C.out; omega)
end Go.Proofs.Ytigaboifjhkfmaa
