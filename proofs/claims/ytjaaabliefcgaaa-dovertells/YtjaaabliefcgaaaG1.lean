/- Walks of the document's own: ahead, at, May. -/
import Derived.Test.YtjaaabliefcgaaaK1
import Derived.Deep.RegionHeld3
namespace Go.Proofs.Ytjaaabliefcgaaa
open Go.RowKit
set_option linter.unusedVariables false

set_option maxHeartbeats 1000000 in
set_option maxRecDepth 100000 in
theorem ahead_any (a b c d : Int) (w : World) :
    Calls Try.prog 49 #[.agg #[.int .i64 a, .int .i64 b], .agg #[.int .i64 c, .int .i64 d]] w fun e w' => e = .returned (.bool (ahd (a, b) (c, d))) ∧ Below w.heap.size w w' := by
  have hb : Below w.heap.size w ((w.alloc (.cells #[.int .i64 a, .int .i64 b] 50)).alloc (.cells #[.int .i64 c, .int .i64 d] 50)) := ((Below.refl _ _).alloc (Nat.le_refl _) _).alloc (by simp) _
  by_cases c1 : a < c
  · have c1' : decide (a < c) = true := decide_eq_true c1
    have HA : Hid (ahd (a, b) (c, d) = true) := ahd_iff.2 (Or.inl c1)
    go_enter Try.func49, Try.ntmps49
    go_wp2
    go_ret
    exact ⟨ret_b HA.out.symm, hb⟩
  · have c1' : decide (a < c) = false := decide_eq_false c1
    by_cases c2 : a = c
    · subst c2
      have HA : Hid (ahd (a, b) (a, d) = decide (b < d)) := by show _ = _; unfold ahd; simp
      go_enter Try.func49, Try.ntmps49
      go_wp2
      go_ret
      exact ⟨ret_b HA.out.symm, hb⟩
    · have c2' : (a == c) = false := by simpa using c2
      have HA : Hid (ahd (a, b) (c, d) = false) := by show _ = _; rw [ahd_not]; simp; omega
      go_enter Try.func49, Try.ntmps49
      go_wp2
      go_ret
      exact ⟨ret_b HA.out.symm, hb⟩
end Go.Proofs.Ytjaaabliefcgaaa
