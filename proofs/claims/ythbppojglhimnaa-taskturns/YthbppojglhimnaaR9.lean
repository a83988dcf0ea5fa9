/- Rings as they come in the statements; the walk of awake. -/
import Derived.Test.YthbppojglhimnaaR8
import Derived.Test.YthbppojglhimnaaR6
namespace Go.Proofs.Ythbppojglhimnaa
open Go.RowKit

theorem rmay_ring (zs : List Bool) (w : World) (hl : zs.length ≤ 60) :
    Calls Try.prog 26 #[.agg #[.int .i64 zs.length, .int .u64 (val zs)]] w fun e w' => e = .returned (.bool true) ∧ Below w.heap.size w w' := by
  have := rmay_any zs.length (val zs) w
  rwa [mayR_val hl] at this
end Go.Proofs.Ythbppojglhimnaa
