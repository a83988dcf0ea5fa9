/- Walks of package pat, for all arguments: Count and Most; and the chapter's example. -/
import Derived.Test.YtigaboifjhkfmaaA1
namespace Go.Proofs.Ytigaboifjhkfmaa
open Go.RowKit

set_option maxHeartbeats 1000000 in
set_option maxRecDepth 100000 in
theorem count_any (m k f n : Int) (w : World) :
    Calls Try.prog 18 #[.int .i64 m, .int .i64 k, .int .i64 f, .int .i64 n] w fun e w' => e = .returned (.int .i64 (cntV m k f n)) ∧ Below w.heap.size w w' := by
  cases h1 : mayB m k
  · have H : Hid (cntV m k f n = 0) := by show _ = _; unfold cntV; rw [h1]; rfl
    have H1 : Hid (mayB m k = false) := h1
    clear h1
    go_enter Try.func18, Try.ntmps18
    go_wp2_with fail
    refine (may_any m k _).mono ?_
    rintro e w1 ⟨rfl, rfl⟩
    rw [H1.out]
    go_wp2
    go_ret
    exact ⟨ret_i H.out.symm, Below.refl _ _⟩
  · have H1 : Hid (mayB m k = true) := h1
    cases h2 : jobB f
    · have H : Hid (cntV m k f n = 0) := by show _ = _; unfold cntV; rw [h1, h2]; rfl
      have H2 : Hid (jobB f = false) := h2
      clear h1 h2
      go_enter Try.func18, Try.ntmps18
      go_wp2_with fail
      refine (may_any m k _).mono ?_
      rintro e w1 ⟨rfl, rfl⟩
      rw [H1.out]
      go_wp2_with fail
      refine (isJob_any f _).mono ?_
      rintro e w1 ⟨rfl, rfl⟩
      rw [H2.out]
      go_wp2
      go_ret
      exact ⟨ret_i H.out.symm, Below.refl _ _⟩
    · have H2 : Hid (jobB f = true) := h2
      cases h3 : jobB n
      · have H : Hid (cntV m k f n = 0) := by show _ = _; unfold cntV; rw [h1, h2, h3]; rfl
        have H3 : Hid (jobB n = false) := h3
        clear h1 h2 h3
        go_enter Try.func18, Try.ntmps18
        go_wp2_with fail
        refine (may_any m k _).mono ?_
        rintro e w1 ⟨rfl, rfl⟩
        rw [H1.out]
        go_wp2_with fail
        refine (isJob_any f _).mono ?_
        rintro e w1 ⟨rfl, rfl⟩
        rw [H2.out]
        go_wp2_with fail
        refine (isJob_any n _).mono ?_
        rintro e w1 ⟨rfl, rfl⟩
        rw [H3.out]
        go_wp2
        go_ret
        exact ⟨ret_i H.out.symm, Below.refl _ _⟩
      · have H : Hid (cntV m k f n = du m k (f + n) - du m k f) := by show _ = _; unfold cntV; rw [h1, h2, h3]; rfl
        have H3 : Hid (jobB n = true) := h3
        obtain ⟨m0, mk, k6⟩ := mayB_of h1
        obtain ⟨f0, f1⟩ := jobB_of h2
        obtain ⟨n0, n1⟩ := jobB_of h3
        clear h1 h2 h3
        obtain ⟨d0, d1⟩ := du_bd (c := 1099511627776) m0 mk k6 f0 f1
        obtain ⟨d2, d3⟩ := du_bd (c := 2199023255552) m0 mk k6 (show 0 ≤ f + n by omega) (by omega)
        go_enter Try.func18, Try.ntmps18
        go_wp2_with fail
        refine (may_any m k _).mono ?_
        rintro e w1 ⟨rfl, rfl⟩
        rw [H1.out]
        go_wp2_with fail
        refine (isJob_any f _).mono ?_
        rintro e w1 ⟨rfl, rfl⟩
        rw [H2.out]
        go_wp2_with fail
        refine (isJob_any n _).mono ?_
        rintro e w1 ⟨rfl, rfl⟩
        rw [H3.out]
        go_wp2_with fail
        refine (due_in m k (f + n) _ m0 mk k6 (by omega) (by omega)).mono ?_
        rintro e w1 ⟨rfl, hb1⟩
        go_wp2_with fail
        refine (due_in m k f _ m0 mk k6 (by omega) (by omega)).mono ?_
        rintro e w2 ⟨rfl, hb2⟩
        have s1 := hb1.size
        go_wp2
        go_ret
        exact ⟨ret_i H.out.symm, hb1.trans (hb2.mono (by omega))⟩

set_option maxHeartbeats 1000000 in
set_option maxRecDepth 100000 in
theorem most_any (m k n : Int) (w : World) :
    Calls Try.prog 20 #[.int .i64 m, .int .i64 k, .int .i64 n] w fun e w' => e = .returned (.int .i64 (mostV m k n)) ∧ Below w.heap.size w w' := by
  cases h1 : mayB m k
  · have H : Hid (mostV m k n = 0) := by show _ = _; unfold mostV; rw [h1]; rfl
    have H1 : Hid (mayB m k = false) := h1
    clear h1
    go_enter Try.func20, Try.ntmps20
    go_wp2_with fail
    refine (may_any m k _).mono ?_
    rintro e w1 ⟨rfl, rfl⟩
    rw [H1.out]
    go_wp2
    go_ret
    exact ⟨ret_i H.out.symm, Below.refl _ _⟩
  · have H1 : Hid (mayB m k = true) := h1
    cases h2 : jobB n
    · have H : Hid (mostV m k n = 0) := by show _ = _; unfold mostV; rw [h1, h2]; rfl
      have H2 : Hid (jobB n = false) := h2
      clear h1 h2
      go_enter Try.func20, Try.ntmps20
      go_wp2_with fail
      refine (may_any m k _).mono ?_
      rintro e w1 ⟨rfl, rfl⟩
      rw [H1.out]
      go_wp2_with fail
      refine (isJob_any n _).mono ?_
      rintro e w1 ⟨rfl, rfl⟩
      rw [H2.out]
      go_wp2
      go_ret
      exact ⟨ret_i H.out.symm, Below.refl _ _⟩
    · have H : Hid (mostV m k n = du m k n) := by show _ = _; unfold mostV; rw [h1, h2]; rfl
      have H2 : Hid (jobB n = true) := h2
      obtain ⟨m0, mk, k6⟩ := mayB_of h1
      obtain ⟨n0, n1⟩ := jobB_of h2
      clear h1 h2
      go_enter Try.func20, Try.ntmps20
      go_wp2_with fail
      refine (may_any m k _).mono ?_
      rintro e w1 ⟨rfl, rfl⟩
      rw [H1.out]
      go_wp2_with fail
      refine (isJob_any n _).mono ?_
      rintro e w1 ⟨rfl, rfl⟩
      rw [H2.out]
      go_wp2_with fail
      refine (due_in m k n _ m0 mk k6 (by omega) (by omega)).mono ?_
      rintro e w1 ⟨rfl, hb1⟩
      go_wp2
      go_ret
      exact ⟨ret_i H.out.symm, hb1⟩

set_option maxHeartbeats 1000000 in
set_option maxRecDepth 100000 in
theorem awake2_any (w : World) :
    Calls Try.prog 10 #[] w fun e w' => e = .returned (.bool true) ∧ Below w.heap.size w w' := by
  have O0 : Hid (onB 2 5 0 = true) := by show _ = _; decide
  have O1 : Hid (onB 2 5 1 = false) := by show _ = _; decide
  have O2 : Hid (onB 2 5 2 = true) := by show _ = _; decide
  have O3 : Hid (onB 2 5 3 = false) := by show _ = _; decide
  have O4 : Hid (onB 2 5 4 = false) := by show _ = _; decide
  have O7 : Hid (onB 2 5 7 = true) := by show _ = _; decide
  have C : Hid (cntV 2 5 5 3 = 2) := by show _ = _; decide
  go_enter Try.func10, Try.ntmps10
  go_wp2_with fail
  refine (on_any 2 5 0 _).mono ?_
  rintro e w1 ⟨rfl, hb1⟩
  rw [O0.out]
  go_wp2_with fail
  refine (on_any 2 5 1 _).mono ?_
  rintro e w2 ⟨rfl, hb2⟩
  rw [O1.out]
  go_wp2_with fail
  refine (on_any 2 5 2 _).mono ?_
  rintro e w3 ⟨rfl, hb3⟩
  rw [O2.out]
  go_wp2_with fail
  refine (on_any 2 5 3 _).mono ?_
  rintro e w4 ⟨rfl, hb4⟩
  rw [O3.out]
  go_wp2_with fail
  refine (on_any 2 5 4 _).mono ?_
  rintro e w5 ⟨rfl, hb5⟩
  rw [O4.out]
  go_wp2_with fail
  refine (on_any 2 5 7 _).mono ?_
  rintro e w6 ⟨rfl, hb6⟩
  rw [O7.out]
  go_wp2_with fail
  refine (count_any 2 5 5 3 _).mono ?_
  rintro e w7 ⟨rfl, hb7⟩
  rw [C.out]
  go_wp2
  go_ret
  have s1 := hb1.size
  have s2 := hb2.size
  have s3 := hb3.size
  have s4 := hb4.size
  have s5 := hb5.size
  have s6 := hb6.size
  exact ⟨rfl, hb1.trans ((hb2.mono (by omega)).trans ((hb3.mono (by omega)).trans ((hb4.mono (by omega)).trans ((hb5.mono (by omega)).trans ((hb6.mono (by omega)).trans (hb7.mono (by omega)))))))⟩
end Go.Proofs.Ytigaboifjhkfmaa
