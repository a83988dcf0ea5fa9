/- The walks of the statements PatWindow and PatMost: each returns true, and writes nothing that was there. -/
import Derived.Test.YtigaboifjhkfmaaA2
import Derived.Test.YtigaboifjhkfmaaM1
namespace Go.Proofs.Ytigaboifjhkfmaa
open Go.RowKit

theorem du_yes {m k n : Int} (m0 : 1 ≤ m) (mk : m ≤ k) (k6 : k ≤ 6) (h : adB m k n = true) : du m k (n + 1) = du m k n + 1 := by
  have := du_step (n := n) m0 mk k6; rw [h] at this; simpa using this
theorem du_not {m k n : Int} (m0 : 1 ≤ m) (mk : m ≤ k) (k6 : k ≤ 6) (h : adB m k n = false) : du m k (n + 1) = du m k n := by
  have := du_step (n := n) m0 mk k6; rw [h] at this; simpa using this

set_option maxHeartbeats 1000000 in
set_option maxRecDepth 100000 in
theorem law_window (m k f : Int) (w : World) :
    Calls Try.prog 4 #[.int .i64 m, .int .i64 k, .int .i64 f] w fun e w' => e = .returned (.bool true) ∧ Below w.heap.size w w' := by
  cases h1 : mayB m k
  · have H1 : Hid (mayB m k = false) := h1
    clear h1
    go_enter Try.func4, Try.ntmps4
    go_wp2_with fail
    refine (awake2_any _).mono ?_
    rintro e w1 ⟨rfl, hb1⟩
    go_wp2_with fail
    refine (may_any m k _).mono ?_
    rintro e w2 ⟨rfl, rfl⟩
    rw [H1.out]
    go_wp2
    go_ret
    exact ⟨rfl, hb1⟩
  · have H1 : Hid (mayB m k = true) := h1
    obtain ⟨m0, mk, k6⟩ := mayB_of h1
    clear h1
    by_cases c : 0 ≤ f ∧ f ≤ 1099511627770
    · obtain ⟨f0, f1⟩ := c
      have HT : Hid (du m k (f + k) = du m k f + m) := du_turn m0 mk k6
      have HC : Hid (cntV m k f k = m) := by show _ = _; rw [cntV_in m0 mk k6 f0 (by omega) (by omega) (by omega), HT.out]; omega
      have HZ : Hid (onB m k 0 = true) := (onB_in m0 mk k6 (by omega) (by omega)).trans (adB_zero m0 mk k6)
      go_enter Try.func4, Try.ntmps4
      go_wp2_with fail
      refine (awake2_any _).mono ?_
      rintro e w1 ⟨rfl, hb1⟩
      go_wp2_with fail
      refine (may_any m k _).mono ?_
      rintro e w2 ⟨rfl, rfl⟩
      rw [H1.out]
      go_wp2_with fail
      go_loopw [8, 9] (fun n i wr => ∃ (a b : Int), 0 ≤ b ∧ b ≤ k ∧ 0 ≤ a ∧ a ≤ b ∧ Hid (a = du m k (f + b) - du m k f) ∧ n = .int .i64 a ∧ i = .int .i64 b ∧ Below w.heap.size w wr) (fun _ i _ => (k - intOf i).toNat)
      case atStart => exact ⟨0, 0, by omega, by omega, by omega, by omega, by show _ = _; simp, rfl, rfl, hb1⟩
      case round =>
        obtain ⟨a, b, b0, b1, a0, a1, HI, rfl, rfl, hbw⟩ := hrel
        by_cases hlt : b < k
        · have HO : Hid (onB m k (f + b) = adB m k (f + b)) := onB_in m0 mk k6 (by omega) (by omega)
          cases had : adB m k (f + b)
          · have HA : Hid (adB m k (f + b) = false) := had
            have HS : Hid (du m k (f + b + 1) = du m k (f + b)) := du_not m0 mk k6 had
            clear had
            go_wp2_with fail
            refine (on_any m k (f + b) _).mono ?_
            rintro e w3 ⟨rfl, hb3⟩
            rw [HO.out, HA.out]
            have s3 := hbw.size
            go_wp2_with fail
            go_roundw
            case rel => exact ⟨a, b + 1, by omega, by omega, by omega, by omega, by show _ = _; rw [← Int.add_assoc, HS.out]; exact HI.out, rfl, rfl, hbw.trans (hb3.mono s3)⟩
            case measure => simp [intOf]; omega
          · have HA : Hid (adB m k (f + b) = true) := had
            have HS : Hid (du m k (f + b + 1) = du m k (f + b) + 1) := du_yes m0 mk k6 had
            clear had
            go_wp2_with fail
            refine (on_any m k (f + b) _).mono ?_
            rintro e w3 ⟨rfl, hb3⟩
            rw [HO.out, HA.out]
            have s3 := hbw.size
            go_wp2_with fail
            go_roundw
            case rel => exact ⟨a + 1, b + 1, by omega, by omega, by omega, by omega, by show _ = _; rw [← Int.add_assoc, HS.out]; have := HI.out; omega, rfl, rfl, hbw.trans (hb3.mono s3)⟩
            case measure => simp [intOf]; omega
        · have hbk : b = k := by omega
          subst hbk
          have ham : a = m := by have := HI.out; have := HT.out; omega
          subst ham
          go_wp2_with fail
          refine (count_any _ _ _ _ _).mono ?_
          rintro e w3 ⟨rfl, hb3⟩
          rw [HC.out]
          go_wp2_with fail
          refine (on_any _ _ 0 _).mono ?_
          rintro e w4 ⟨rfl, hb4⟩
          rw [HZ.out]
          have s3 := hbw.size
          have s4 := hb3.size
          go_wp2
          go_ret
          exact ⟨rfl, hbw.trans ((hb3.mono s3).trans (hb4.mono (by omega)))⟩
    · have C : Hid (¬ (0 ≤ f ∧ f ≤ 1099511627770)) := c
      clear c
      go_enter Try.func4, Try.ntmps4
      go_wp2_with fail
      refine (awake2_any _).mono ?_
      rintro e w1 ⟨rfl, hb1⟩
      go_wp2_with fail
      refine (may_any _ _ _).mono ?_
      rintro e w2 ⟨rfl, rfl⟩
      rw [H1.out]
      go_wp2_with fail
      all_goals first
        | (go_ret; exact ⟨rfl, hb1⟩)
        | (exfalso; have := C.out; omega)
end Go.Proofs.Ytigaboifjhkfmaa
