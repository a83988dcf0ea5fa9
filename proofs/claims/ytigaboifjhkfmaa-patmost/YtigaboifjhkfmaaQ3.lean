/- The walk of the statement PatMost: it returns true, and writes nothing that was there. -/
import Derived.Test.YtigaboifjhkfmaaQ2
namespace Go.Proofs.Ytigaboifjhkfmaa
open Go.RowKit

set_option maxHeartbeats 1000000 in
set_option maxRecDepth 100000 in
theorem law_most (m k f n : Int) (w : World) :
    Calls Try.prog 5 #[.int .i64 m, .int .i64 k, .int .i64 f, .int .i64 n] w fun e w' => e = .returned (.bool true) ∧ Below w.heap.size w w' := by
  cases h1 : mayB m k
  · have H1 : Hid (mayB m k = false) := h1
    clear h1
    go_enter Try.func5, Try.ntmps5
    go_wp2_with fail
    refine (awake2_any _).mono ?_
    rintro e w1 ⟨rfl, hb1⟩
    go_wp2_with fail
    refine (may_any m k _).mono ?_
    rintro e w2 ⟨rfl, rfl⟩
    rw [H1.out]
    go_wp2
    go_ret
    exact ⟨rfl, hb1⟩
  · have H1 : Hid (mayB m k = true) := h1
    obtain ⟨m0, mk, k6⟩ := mayB_of h1
    clear h1
    by_cases c : 0 ≤ f ∧ 0 ≤ n ∧ n ≤ 100 ∧ f ≤ 1099511627676
    · obtain ⟨f0, n0, n1, f1⟩ := c
      have HC : Hid (cntV m k f n = du m k (f + n) - du m k f) := cntV_in m0 mk k6 f0 (by omega) n0 (by omega)
      have HM : Hid (mostV m k n = du m k n) := mostV_in m0 mk k6 n0 (by omega)
      obtain ⟨g1, g2⟩ := du_add (a := f) (b := n) m0 mk k6
      have HZ : Hid (du m k 0 = 0) := du_zero m k
      clear g1
      go_enter Try.func5, Try.ntmps5
      go_wp2_with fail
      refine (awake2_any _).mono ?_
      rintro e w1 ⟨rfl, hb1⟩
      go_wp2_with fail
      refine (may_any m k _).mono ?_
      rintro e w2 ⟨rfl, rfl⟩
      rw [H1.out]
      go_wp2_with fail
      go_loopw [10, 11, 12] (fun x y i wr => ∃ (a d b : Int), 0 ≤ b ∧ b ≤ n ∧ 0 ≤ a ∧ a ≤ b ∧ 0 ≤ d ∧ d ≤ b ∧ Hid (a = du m k (f + b) - du m k f) ∧ Hid (d = du m k b) ∧ x = .int .i64 a ∧ y = .int .i64 d ∧ i = .int .i64 b ∧ Below w.heap.size w wr) (fun _ _ i _ => (n - intOf i).toNat)
      case atStart => exact ⟨0, 0, 0, by omega, by omega, by omega, by omega, by omega, by omega, by show _ = _; simp, HZ.out.symm, rfl, rfl, rfl, hb1⟩
      case round =>
        obtain ⟨a, d, b, b0, b1, a0, a1, d0, d1, HI, HJ, rfl, rfl, rfl, hbw⟩ := hrel
        by_cases hlt : b < n
        · have HO : Hid (onB m k (f + b) = adB m k (f + b)) := onB_in m0 mk k6 (by omega) (by omega)
          have HO' : Hid (onB m k b = adB m k b) := onB_in m0 mk k6 (by omega) (by omega)
          cases had : adB m k (f + b)
          · have HA : Hid (adB m k (f + b) = false) := had
            have HS : Hid (du m k (f + b + 1) = du m k (f + b)) := du_not m0 mk k6 had
            cases had' : adB m k b
            · have HA' : Hid (adB m k b = false) := had'
              have HS' : Hid (du m k (b + 1) = du m k b) := du_not m0 mk k6 had'
              clear had had'
              go_wp2_with fail
              refine (on_any m k (f + b) _).mono ?_
              rintro e w3 ⟨rfl, hb3⟩
              rw [HO.out, HA.out]
              go_wp2_with fail
              refine (on_any m k b _).mono ?_
              rintro e w4 ⟨rfl, hb4⟩
              rw [HO'.out, HA'.out]
              have s3 := hbw.size
              have s4 := hb3.size
              go_wp2_with fail
              go_roundw
              case rel => exact ⟨a, d, b + 1, by omega, by omega, by omega, by omega, by omega, by omega, by show _ = _; rw [← Int.add_assoc, HS.out]; have := HI.out; omega, by show _ = _; rw [HS'.out]; have := HJ.out; omega, rfl, rfl, rfl, hbw.trans ((hb3.mono s3).trans (hb4.mono (by omega)))⟩
              case measure => simp [intOf]; omega
            · have HA' : Hid (adB m k b = true) := had'
              have HS' : Hid (du m k (b + 1) = du m k b + 1) := du_yes m0 mk k6 had'
              clear had had'
              go_wp2_with fail
              refine (on_any m k (f + b) _).mono ?_
              rintro e w3 ⟨rfl, hb3⟩
              rw [HO.out, HA.out]
              go_wp2_with fail
              refine (on_any m k b _).mono ?_
              rintro e w4 ⟨rfl, hb4⟩
              rw [HO'.out, HA'.out]
              have s3 := hbw.size
              have s4 := hb3.size
              go_wp2_with fail
              go_roundw
              case rel => exact ⟨a, d + 1, b + 1, by omega, by omega, by omega, by omega, by omega, by omega, by show _ = _; rw [← Int.add_assoc, HS.out]; have := HI.out; omega, by show _ = _; rw [HS'.out]; have := HJ.out; omega, rfl, rfl, rfl, hbw.trans ((hb3.mono s3).trans (hb4.mono (by omega)))⟩
              case measure => simp [intOf]; omega
          · have HA : Hid (adB m k (f + b) = true) := had
            have HS : Hid (du m k (f + b + 1) = du m k (f + b) + 1) := du_yes m0 mk k6 had
            cases had' : adB m k b
            · have HA' : Hid (adB m k b = false) := had'
              have HS' : Hid (du m k (b + 1) = du m k b) := du_not m0 mk k6 had'
              clear had had'
              go_wp2_with fail
              refine (on_any m k (f + b) _).mono ?_
              rintro e w3 ⟨rfl, hb3⟩
              rw [HO.out, HA.out]
              go_wp2_with fail
              refine (on_any m k b _).mono ?_
              rintro e w4 ⟨rfl, hb4⟩
              rw [HO'.out, HA'.out]
              have s3 := hbw.size
              have s4 := hb3.size
              go_wp2_with fail
              go_roundw
              case rel => exact ⟨a + 1, d, b + 1, by omega, by omega, by omega, by omega, by omega, by omega, by show _ = _; rw [← Int.add_assoc, HS.out]; have := HI.out; omega, by show _ = _; rw [HS'.out]; have := HJ.out; omega, rfl, rfl, rfl, hbw.trans ((hb3.mono s3).trans (hb4.mono (by omega)))⟩
              case measure => simp [intOf]; omega
            · have HA' : Hid (adB m k b = true) := had'
              have HS' : Hid (du m k (b + 1) = du m k b + 1) := du_yes m0 mk k6 had'
              clear had had'
              go_wp2_with fail
              refine (on_any m k (f + b) _).mono ?_
              rintro e w3 ⟨rfl, hb3⟩
              rw [HO.out, HA.out]
              go_wp2_with fail
              refine (on_any m k b _).mono ?_
              rintro e w4 ⟨rfl, hb4⟩
              rw [HO'.out, HA'.out]
              have s3 := hbw.size
              have s4 := hb3.size
              go_wp2_with fail
              go_roundw
              case rel => exact ⟨a + 1, d + 1, b + 1, by omega, by omega, by omega, by omega, by omega, by omega, by show _ = _; rw [← Int.add_assoc, HS.out]; have := HI.out; omega, by show _ = _; rw [HS'.out]; have := HJ.out; omega, rfl, rfl, rfl, hbw.trans ((hb3.mono s3).trans (hb4.mono (by omega)))⟩
              case measure => simp [intOf]; omega
        · have hbk : b = n := by omega
          subst hbk
          have E1 : Hid (cntV m k f b = a) := HC.out.trans HI.out.symm
          have E2 : Hid (mostV m k b = d) := HM.out.trans HJ.out.symm
          have ham : a ≤ d := by have := HI.out; have := HJ.out; omega
          clear g2
          go_wp2_with fail
          refine (count_any _ _ _ _ _).mono ?_
          rintro e w3 ⟨rfl, hb3⟩
          rw [E1.out]
          go_wp2_with fail
          refine (most_any _ _ _ _).mono ?_
          rintro e w4 ⟨rfl, hb4⟩
          rw [E2.out]
          go_wp2_with fail
          refine (most_any _ _ _ _).mono ?_
          rintro e w5 ⟨rfl, hb5⟩
          rw [E2.out]
          have s3 := hbw.size
          have s4 := hb3.size
          have s5 := hb4.size
          go_wp2
          go_ret
          exact ⟨by first | rfl | exact ret_b (by simp), hbw.trans ((hb3.mono s3).trans ((hb4.mono (by omega)).trans (hb5.mono (by omega))))⟩
    · have C : Hid (¬ (0 ≤ f ∧ 0 ≤ n ∧ n ≤ 100 ∧ f ≤ 1099511627676)) := c
      clear c
      go_enter Try.func5, Try.ntmps5
      go_wp2_with fail
      refine (awake2_any _).mono ?_
      rintro e w1 ⟨rfl, hb1⟩
      go_wp2_with fail
      refine (may_any _ _ _).mono ?_
      rintro e w2 ⟨rfl, rfl⟩
      rw [H1.out]
      go_wp2_with fail
      all_goals first
        | (go_ret; exact ⟨rfl, hb1⟩)
        | (exfalso; have := C.out; omega)
end Go.Proofs.Ytigaboifjhkfmaa
