/- Walks of package pat, for all arguments: Count and Most; and the chapter's example. -/
import Derived.Test.YteibaiflljcghaaDoorA1
namespace Go.Proofs.YteibaiflljcghaaDoor
open Go.RowKit
set_option maxHeartbeats 1000000 in
set_option maxRecDepth 100000 in
theorem most_any (m k n : Int) (w : World) :
    Calls Tryd.prog 32 #[.int .i64 m, .int .i64 k, .int .i64 n] w fun e w' => e = .returned (.int .i64 (mostV m k n)) ∧ Below w.heap.size w w' := by
  cases h1 : mayB m k
  · have H : Hid (mostV m k n = 0) := by show _ = _; unfold mostV; rw [h1]; rfl
    have H1 : Hid (mayB m k = false) := h1
    clear h1
    go_enter Tryd.func32, Tryd.ntmps32
    go_wp2_with fail
    refine (may_any m k _).mono ?_
    rintro e w1 ⟨rfl, rfl⟩
    rw [H1.out]
    go_wp2
    go_ret
    exact ⟨ret_i H.out.symm, Below.refl _ _⟩
  · have H1 : Hid (mayB m k = true) := h1
    cases h2 : jobB n
    · have H : Hid (mostV m k n = 0) := by show _ = _; unfold mostV; rw [h1, h2]; rfl
      have H2 : Hid (jobB n = false) := h2
      clear h1 h2
      go_enter Tryd.func32, Tryd.ntmps32
      go_wp2_with fail
      refine (may_any m k _).mono ?_
      rintro e w1 ⟨rfl, rfl⟩
      rw [H1.out]
      go_wp2_with fail
      refine (isJob_any n _).mono ?_
      rintro e w1 ⟨rfl, rfl⟩
      rw [H2.out]
      go_wp2
      go_ret
      exact ⟨ret_i H.out.symm, Below.refl _ _⟩
    · have H : Hid (mostV m k n = du m k n) := by show _ = _; unfold mostV; rw [h1, h2]; rfl
      have H2 : Hid (jobB n = true) := h2
      obtain ⟨m0, mk, k6⟩ := mayB_of h1
      obtain ⟨n0, n1⟩ := jobB_of h2
      clear h1 h2
      go_enter Tryd.func32, Tryd.ntmps32
      go_wp2_with fail
      refine (may_any m k _).mono ?_
      rintro e w1 ⟨rfl, rfl⟩
      rw [H1.out]
      go_wp2_with fail
      refine (isJob_any n _).mono ?_
      rintro e w1 ⟨rfl, rfl⟩
      rw [H2.out]
      go_wp2_with fail
      refine (due_in m k n _ m0 mk k6 (by omega) (by omega)).mono ?_
      rintro e w1 ⟨rfl, hb1⟩
      go_wp2
      go_ret
      exact ⟨ret_i H.out.symm, hb1⟩
end Go.Proofs.YteibaiflljcghaaDoor
