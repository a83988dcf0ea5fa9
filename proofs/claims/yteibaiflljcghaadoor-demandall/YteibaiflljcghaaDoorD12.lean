import Derived.Test.YteibaiflljcghaaDoorD10
/- What the statement DemandAll comes to. -/
namespace Go.Proofs.YteibaiflljcghaaDoor
open Go.RowKit Go.Shelf

set_option maxHeartbeats 8000000 in
set_option maxRecDepth 100000 in
theorem law_dall (l : Nat) (f : Nat → Fx) (n : Int) (v : Value) (w : World) (h : Fxs w v l f) (hL : Lim w) :
    Calls Tryd.prog 4 #[v, .int .i64 n] w fun r w' => r = .returned (.bool true) ∧ Below w.heap.size w w' := by
  have HX : Hid (Fxs w v l f ∧ Lim w) := ⟨h, hL⟩
  clear h hL
  cases hm : may9 l f with
  | false =>
    have HM : Hid (may9 l f = false) := hm
    clear hm
    go_enter Tryd.func4, Tryd.ntmps4
    go_wp2_with fail
    refine (awake9_any _ HX.out.2).mono ?_
    rintro r1 w1 ⟨rfl, hb1⟩
    go_wp2_with fail
    refine (may9_any l f _ _ (HX.out.1.later hb1) (HX.out.2.later hb1)).mono ?_
    rintro r2 w2 ⟨rfl, hb2⟩
    rw [HM.out]
    replace hb2 : Below w.heap.size w w2 := hb1.trans (hb2.mono hb1.size)
    clear hb1
    go_wp2_with fail
    go_ret
    exact ⟨by first | rfl | exact ret_b (by simp) | exact ret_b (decide_eq_true (by omega)) | exact ret_b (by simp; omega), hb2⟩
  | true =>
    have HM : Hid (may9 l f = true) := hm
    by_cases hn : 0 ≤ n ∧ n ≤ 1099511627776
    · obtain ⟨n0, n1⟩ := hn
      have hl4 := (may9_facts hm).1
      have hB := beyond (n := n) hm
      have hI := first9_is l f
      obtain ⟨g0, g1⟩ := hor9_nonneg l f
      have hT : tst9 l f = decide (first9 l f = 0) := by unfold tst9; rw [hm]; rfl
      have hA : ∀ i, allV9 l f i = allS l f i := fun i => all9_in (by omega)
      obtain ⟨h9, hh⟩ : ∃ h9, hor9 l f = h9 := ⟨_, rfl⟩
      have HH : Hid (hor9 l f = h9) := hh
      rw [hh] at g0 g1 hB hI
      obtain ⟨y, hy⟩ : ∃ y, allV9 l f n = y := ⟨_, rfl⟩
      have HY : Hid (allV9 l f n = y) := hy
      rw [← hA, hy] at hB
      obtain ⟨b0, b1⟩ := allS_bd l f n
      rw [← hA, hy] at b0 b1
      obtain ⟨r, hr⟩ : ∃ r, first9 l f = r := ⟨_, rfl⟩
      have HR : Hid (first9 l f = r) := hr
      rw [hr] at hI hT
      rcases hI with ⟨rfl, hI⟩ | ⟨q0, q1, q2, q3⟩
      · have HT : Hid (tst9 l f = true) := hT
        clear hm hh hr hT hA
        by_cases c1 : h9 ≤ n
        · have c2 : y ≤ n := hB c1 n1
          clear hB hI hy
          go_enter Tryd.func4, Tryd.ntmps4
          go_wp2_with fail
          refine (awake9_any _ HX.out.2).mono ?_
          rintro r1 w1 ⟨rfl, hb1⟩
          go_wp2_with fail
          refine (may9_any l f _ _ (HX.out.1.later hb1) (HX.out.2.later hb1)).mono ?_
          rintro r2 w2 ⟨rfl, hb2⟩
          rw [HM.out]
          replace hb2 : Below w.heap.size w w2 := hb1.trans (hb2.mono hb1.size)
          clear hb1
          go_wp2_with fail
          refine (first9_any l f _ _ (HX.out.1.later hb2) (HX.out.2.later hb2)).mono ?_
          rintro r3 w3 ⟨rfl, hb3⟩
          rw [HR.out]
          replace hb3 : Below w.heap.size w w3 := hb2.trans (hb3.mono hb2.size)
          clear hb2
          go_wp2_with fail
          refine (test9_any l f _ _ (HX.out.1.later hb3) (HX.out.2.later hb3)).mono ?_
          rintro r4 w4 ⟨rfl, hb4⟩
          rw [HT.out]
          replace hb4 : Below w.heap.size w w4 := hb3.trans (hb4.mono hb3.size)
          clear hb3
          go_wp2_with fail
          refine (hor9_any l f _ _ (HX.out.1.later hb4) (HX.out.2.later hb4)).mono ?_
          rintro r5 w5 ⟨rfl, hb5⟩
          rw [HH.out]
          replace hb5 : Below w.heap.size w w5 := hb4.trans (hb5.mono hb4.size)
          clear hb4
          go_wp2_with fail
          refine (all9_any l f n _ _ (HX.out.1.later hb5)).mono ?_
          rintro r6 w6 ⟨rfl, hb6⟩
          rw [HY.out]
          replace hb6 : Below w.heap.size w w6 := hb5.trans (hb6.mono hb5.size)
          clear hb5
          go_wp2_with fail
          refine (all9_any l f n _ _ (HX.out.1.later hb6)).mono ?_
          rintro r7 w7 ⟨rfl, hb7⟩
          rw [HY.out]
          replace hb7 : Below w.heap.size w w7 := hb6.trans (hb7.mono hb6.size)
          clear hb6
          go_wp2_with fail
          go_ret
          exact ⟨by first | rfl | exact ret_b (by simp) | exact ret_b (decide_eq_true (by omega)) | exact ret_b (by simp; omega), hb7⟩
        · have c2 : y ≤ n := by
            by_cases c : 1 ≤ n
            · have := hI n c (by omega); rw [hy] at this; exact this
            · have e : n = 0 := by omega
              subst e
              have h0 : allS l f 0 ≤ sm l (fun _ => 0) := sm_le fun i _ => (of_bd (f i) 0).2.2 (Int.le_refl _)
              rw [sm_zero, ← all9_in (show l ≤ 1000 by omega), hy] at h0
              exact h0
          clear hB hI hy
          go_enter Tryd.func4, Tryd.ntmps4
          go_wp2_with fail
          refine (awake9_any _ HX.out.2).mono ?_
          rintro r1 w1 ⟨rfl, hb1⟩
          go_wp2_with fail
          refine (may9_any l f _ _ (HX.out.1.later hb1) (HX.out.2.later hb1)).mono ?_
          rintro r2 w2 ⟨rfl, hb2⟩
          rw [HM.out]
          replace hb2 : Below w.heap.size w w2 := hb1.trans (hb2.mono hb1.size)
          clear hb1
          go_wp2_with fail
          refine (first9_any l f _ _ (HX.out.1.later hb2) (HX.out.2.later hb2)).mono ?_
          rintro r3 w3 ⟨rfl, hb3⟩
          rw [HR.out]
          replace hb3 : Below w.heap.size w w3 := hb2.trans (hb3.mono hb2.size)
          clear hb2
          go_wp2_with fail
          refine (test9_any l f _ _ (HX.out.1.later hb3) (HX.out.2.later hb3)).mono ?_
          rintro r4 w4 ⟨rfl, hb4⟩
          rw [HT.out]
          replace hb4 : Below w.heap.size w w4 := hb3.trans (hb4.mono hb3.size)
          clear hb3
          go_wp2_with fail
          refine (hor9_any l f _ _ (HX.out.1.later hb4) (HX.out.2.later hb4)).mono ?_
          rintro r5 w5 ⟨rfl, hb5⟩
          rw [HH.out]
          replace hb5 : Below w.heap.size w w5 := hb4.trans (hb5.mono hb4.size)
          clear hb4
          go_wp2_with fail
          refine (all9_any l f n _ _ (HX.out.1.later hb5)).mono ?_
          rintro r6 w6 ⟨rfl, hb6⟩
          rw [HY.out]
          replace hb6 : Below w.heap.size w w6 := hb5.trans (hb6.mono hb5.size)
          clear hb5
          go_wp2_with fail
          go_ret
          exact ⟨by first | rfl | exact ret_b (by simp) | exact ret_b (decide_eq_true (by omega)) | exact ret_b (by simp; omega), hb6⟩
      · have HT : Hid (tst9 l f = false) := by show _ = _; rw [hT]; exact decide_eq_false (by omega)
        obtain ⟨z, hz⟩ : ∃ z, allV9 l f r = z := ⟨_, rfl⟩
        have HZ : Hid (allV9 l f r = z) := hz
        rw [hz] at q2
        have hi := q3 n
        rw [hy] at hi
        have y0 : n = 0 → y ≤ n := by
          intro e
          subst e
          have h0 : allS l f 0 ≤ sm l (fun _ => 0) := sm_le fun i _ => (of_bd (f i) 0).2.2 (Int.le_refl _)
          rw [sm_zero, ← hA, hy] at h0
          exact h0
        clear hm hh hr hT hA hz q3 hy
        by_cases c1 : h9 ≤ n
        · have c2 : y ≤ n := hB c1 n1
          have c3 : r ≤ n := by omega
          have c4 : (r == 0) = false := by simp; omega
          have c5 : ¬ (n < y) := by omega
          clear hB hi y0
          go_enter Tryd.func4, Tryd.ntmps4
          go_wp2_with fail
          refine (awake9_any _ HX.out.2).mono ?_
          rintro r1 w1 ⟨rfl, hb1⟩
          go_wp2_with fail
          refine (may9_any l f _ _ (HX.out.1.later hb1) (HX.out.2.later hb1)).mono ?_
          rintro r2 w2 ⟨rfl, hb2⟩
          rw [HM.out]
          replace hb2 : Below w.heap.size w w2 := hb1.trans (hb2.mono hb1.size)
          clear hb1
          go_wp2_with fail
          refine (first9_any l f _ _ (HX.out.1.later hb2) (HX.out.2.later hb2)).mono ?_
          rintro r3 w3 ⟨rfl, hb3⟩
          rw [HR.out]
          replace hb3 : Below w.heap.size w w3 := hb2.trans (hb3.mono hb2.size)
          clear hb2
          go_wp2_with fail
          refine (test9_any l f _ _ (HX.out.1.later hb3) (HX.out.2.later hb3)).mono ?_
          rintro r4 w4 ⟨rfl, hb4⟩
          rw [HT.out]
          replace hb4 : Below w.heap.size w w4 := hb3.trans (hb4.mono hb3.size)
          clear hb3
          go_wp2_with fail
          refine (hor9_any l f _ _ (HX.out.1.later hb4) (HX.out.2.later hb4)).mono ?_
          rintro r5 w5 ⟨rfl, hb5⟩
          rw [HH.out]
          replace hb5 : Below w.heap.size w w5 := hb4.trans (hb5.mono hb4.size)
          clear hb4
          go_wp2_with fail
          refine (all9_any l f n _ _ (HX.out.1.later hb5)).mono ?_
          rintro r6 w6 ⟨rfl, hb6⟩
          rw [HY.out]
          replace hb6 : Below w.heap.size w w6 := hb5.trans (hb6.mono hb5.size)
          clear hb5
          go_wp2_with fail
          refine (hor9_any l f _ _ (HX.out.1.later hb6) (HX.out.2.later hb6)).mono ?_
          rintro r7 w7 ⟨rfl, hb7⟩
          rw [HH.out]
          replace hb7 : Below w.heap.size w w7 := hb6.trans (hb7.mono hb6.size)
          clear hb6
          go_wp2_with fail
          refine (all9_any l f r _ _ (HX.out.1.later hb7)).mono ?_
          rintro r8 w8 ⟨rfl, hb8⟩
          rw [HZ.out]
          replace hb8 : Below w.heap.size w w8 := hb7.trans (hb8.mono hb7.size)
          clear hb7
          go_wp2_with fail
          go_ret
          exact ⟨by first | rfl | exact ret_b (by simp) | exact ret_b (decide_eq_true (by omega)) | exact ret_b (by simp; omega), hb8⟩
        · clear hB
          by_cases c3 : r ≤ n
          · clear hi y0
            go_enter Tryd.func4, Tryd.ntmps4
            go_wp2_with fail
            refine (awake9_any _ HX.out.2).mono ?_
            rintro r1 w1 ⟨rfl, hb1⟩
            go_wp2_with fail
            refine (may9_any l f _ _ (HX.out.1.later hb1) (HX.out.2.later hb1)).mono ?_
            rintro r2 w2 ⟨rfl, hb2⟩
            rw [HM.out]
            replace hb2 : Below w.heap.size w w2 := hb1.trans (hb2.mono hb1.size)
            clear hb1
            go_wp2_with fail
            refine (first9_any l f _ _ (HX.out.1.later hb2) (HX.out.2.later hb2)).mono ?_
            rintro r3 w3 ⟨rfl, hb3⟩
            rw [HR.out]
            replace hb3 : Below w.heap.size w w3 := hb2.trans (hb3.mono hb2.size)
            clear hb2
            go_wp2_with fail
            refine (test9_any l f _ _ (HX.out.1.later hb3) (HX.out.2.later hb3)).mono ?_
            rintro r4 w4 ⟨rfl, hb4⟩
            rw [HT.out]
            replace hb4 : Below w.heap.size w w4 := hb3.trans (hb4.mono hb3.size)
            clear hb3
            go_wp2_with fail
            refine (hor9_any l f _ _ (HX.out.1.later hb4) (HX.out.2.later hb4)).mono ?_
            rintro r5 w5 ⟨rfl, hb5⟩
            rw [HH.out]
            replace hb5 : Below w.heap.size w w5 := hb4.trans (hb5.mono hb4.size)
            clear hb4
            go_wp2_with fail
            refine (hor9_any l f _ _ (HX.out.1.later hb5) (HX.out.2.later hb5)).mono ?_
            rintro r6 w6 ⟨rfl, hb6⟩
            rw [HH.out]
            replace hb6 : Below w.heap.size w w6 := hb5.trans (hb6.mono hb5.size)
            clear hb5
            go_wp2_with fail
            refine (all9_any l f r _ _ (HX.out.1.later hb6)).mono ?_
            rintro r7 w7 ⟨rfl, hb7⟩
            rw [HZ.out]
            replace hb7 : Below w.heap.size w w7 := hb6.trans (hb7.mono hb6.size)
            clear hb6
            go_wp2_with fail
            go_ret
            exact ⟨by first | rfl | exact ret_b (by simp) | exact ret_b (decide_eq_true (by omega)) | exact ret_b (by simp; omega), hb7⟩
          · have c2 : y ≤ n := by
              by_cases c : 1 ≤ n
              · exact hi c (by omega)
              · exact y0 (by omega)
            clear hi y0
            go_enter Tryd.func4, Tryd.ntmps4
            go_wp2_with fail
            refine (awake9_any _ HX.out.2).mono ?_
            rintro r1 w1 ⟨rfl, hb1⟩
            go_wp2_with fail
            refine (may9_any l f _ _ (HX.out.1.later hb1) (HX.out.2.later hb1)).mono ?_
            rintro r2 w2 ⟨rfl, hb2⟩
            rw [HM.out]
            replace hb2 : Below w.heap.size w w2 := hb1.trans (hb2.mono hb1.size)
            clear hb1
            go_wp2_with fail
            refine (first9_any l f _ _ (HX.out.1.later hb2) (HX.out.2.later hb2)).mono ?_
            rintro r3 w3 ⟨rfl, hb3⟩
            rw [HR.out]
            replace hb3 : Below w.heap.size w w3 := hb2.trans (hb3.mono hb2.size)
            clear hb2
            go_wp2_with fail
            refine (test9_any l f _ _ (HX.out.1.later hb3) (HX.out.2.later hb3)).mono ?_
            rintro r4 w4 ⟨rfl, hb4⟩
            rw [HT.out]
            replace hb4 : Below w.heap.size w w4 := hb3.trans (hb4.mono hb3.size)
            clear hb3
            go_wp2_with fail
            refine (hor9_any l f _ _ (HX.out.1.later hb4) (HX.out.2.later hb4)).mono ?_
            rintro r5 w5 ⟨rfl, hb5⟩
            rw [HH.out]
            replace hb5 : Below w.heap.size w w5 := hb4.trans (hb5.mono hb4.size)
            clear hb4
            go_wp2_with fail
            refine (hor9_any l f _ _ (HX.out.1.later hb5) (HX.out.2.later hb5)).mono ?_
            rintro r6 w6 ⟨rfl, hb6⟩
            rw [HH.out]
            replace hb6 : Below w.heap.size w w6 := hb5.trans (hb6.mono hb5.size)
            clear hb5
            go_wp2_with fail
            refine (all9_any l f r _ _ (HX.out.1.later hb6)).mono ?_
            rintro r7 w7 ⟨rfl, hb7⟩
            rw [HZ.out]
            replace hb7 : Below w.heap.size w w7 := hb6.trans (hb7.mono hb6.size)
            clear hb6
            go_wp2_with fail
            refine (all9_any l f n _ _ (HX.out.1.later hb7)).mono ?_
            rintro r8 w8 ⟨rfl, hb8⟩
            rw [HY.out]
            replace hb8 : Below w.heap.size w w8 := hb7.trans (hb8.mono hb7.size)
            clear hb7
            go_wp2_with fail
            go_ret
            exact ⟨by first | rfl | exact ret_b (by simp) | exact ret_b (decide_eq_true (by omega)) | exact ret_b (by simp; omega), hb8⟩
    · clear hm
      by_cases c0 : n < 0
      · clear hn
        go_enter Tryd.func4, Tryd.ntmps4
        go_wp2_with fail
        refine (awake9_any _ HX.out.2).mono ?_
        rintro r1 w1 ⟨rfl, hb1⟩
        go_wp2_with fail
        refine (may9_any l f _ _ (HX.out.1.later hb1) (HX.out.2.later hb1)).mono ?_
        rintro r2 w2 ⟨rfl, hb2⟩
        rw [HM.out]
        replace hb2 : Below w.heap.size w w2 := hb1.trans (hb2.mono hb1.size)
        clear hb1
        go_wp2_with fail
        go_ret
        exact ⟨by first | rfl | exact ret_b (by simp) | exact ret_b (decide_eq_true (by omega)) | exact ret_b (by simp; omega), hb2⟩
      · have c1 : n > 1099511627776 := by omega
        clear hn
        go_enter Tryd.func4, Tryd.ntmps4
        go_wp2_with fail
        refine (awake9_any _ HX.out.2).mono ?_
        rintro r1 w1 ⟨rfl, hb1⟩
        go_wp2_with fail
        refine (may9_any l f _ _ (HX.out.1.later hb1) (HX.out.2.later hb1)).mono ?_
        rintro r2 w2 ⟨rfl, hb2⟩
        rw [HM.out]
        replace hb2 : Below w.heap.size w w2 := hb1.trans (hb2.mono hb1.size)
        clear hb1
        go_wp2_with fail
        go_ret
        exact ⟨by first | rfl | exact ret_b (by simp) | exact ret_b (decide_eq_true (by omega)) | exact ret_b (by simp; omega), hb2⟩
end Go.Proofs.YteibaiflljcghaaDoor
