/- Walks of package ring: outcomes, Good, Fine and Far. -/
import Derived.Test.YtcdkocdjbpebpaaR4
namespace Go.Proofs.Ytcdkocdjbpebpaa
open Go.RowKit

set_option maxHeartbeats 1000000 in
set_option maxRecDepth 100000 in
theorem outcomes_any (zs : List Bool) (w : World) :
    Calls Try.prog 37 #[.agg #[.int .i64 zs.length, .int .u64 (val zs)]] w fun e w' => e = .returned (tellV w.heap.size) ∧ w' = w.alloc (.cells #[.int .i64 zs.length, .int .u64 (val zs)] 59) := by
  go_enter Try.func37, Try.ntmps37
  go_wp2
  go_ret
  exact ⟨rfl, rfl⟩

/-- How many of the last n are good. -/
def goodR (zs : List Bool) (n : Int) : Nat := cntR zs 0 (if (zs.length : Int) < n then zs.length else n)
end Go.Proofs.Ytcdkocdjbpebpaa
