/- Walks of package ring: May, viewOf. -/
import Derived.Test.YthbppojglhimnaaR1
import Derived.Deep.RegionWith
namespace Go.Proofs.Ythbppojglhimnaa
open Go.RowKit

set_option maxHeartbeats 1000000 in
set_option maxRecDepth 100000 in
theorem rmay_any (N B : Int) (w : World) :
    Calls Try.prog 26 #[.agg #[.int .i64 N, .int .u64 B]] w fun e w' => e = .returned (.bool (mayR N B)) ∧ Below w.heap.size w w' := by
  by_cases c0 : 0 ≤ N
  · by_cases c1 : N ≤ 60
    · have H : Hid (mayR N B = (B / 2 ^ N.toNat == 0)) := by show _ = _; unfold mayR; simp [c0, c1]; rfl
      go_enter Try.func26, Try.ntmps26
      go_wp2
      go_ret
      exact ⟨ret_b H.out.symm, (Below.refl _ _).alloc (by simp) _⟩
    · have H : Hid (mayR N B = false) := by show _ = _; unfold mayR; simp [c1]
      go_enter Try.func26, Try.ntmps26
      go_wp2
      go_ret
      exact ⟨ret_b H.out.symm, (Below.refl _ _).alloc (by simp) _⟩
  · have H : Hid (mayR N B = false) := by show _ = _; unfold mayR; simp [c0]
    go_enter Try.func26, Try.ntmps26
    go_wp2
    go_ret
    exact ⟨ret_b H.out.symm, (Below.refl _ _).alloc (by simp) _⟩
end Go.Proofs.Ythbppojglhimnaa
