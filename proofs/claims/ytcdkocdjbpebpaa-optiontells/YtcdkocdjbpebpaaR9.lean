/- Rings as they come in the statements; the walk of awake. -/
import Derived.Test.YtcdkocdjbpebpaaR8
import Derived.Test.YtcdkocdjbpebpaaR6
namespace Go.Proofs.Ytcdkocdjbpebpaa
open Go.RowKit

theorem rmay_ring (zs : List Bool) (w : World) (hl : zs.length ≤ 60) :
    Calls Try.prog 19 #[.agg #[.int .i64 zs.length, .int .u64 (val zs)]] w fun e w' => e = .returned (.bool true) ∧ Below w.heap.size w w' := by
  have := rmay_any zs.length (val zs) w
  rwa [mayR_val hl] at this
theorem far_ring (zs : List Bool) (m k : Int) (w : World) (hl : zs.length ≤ 60) (m0 : 1 ≤ m) (mk : m ≤ k) (k6 : k ≤ 6) :
    Calls Try.prog 23 #[.agg #[.int .i64 zs.length, .int .u64 (val zs)], .int .i64 m, .int .i64 k] w fun e w' => ∃ n : Nat, e = .returned (.int .i64 n) ∧ IsFar zs m k.toNat n ∧ Below w.heap.size w w' := by
  obtain ⟨K, rfl⟩ := Int.eq_ofNat_of_zero_le (show 0 ≤ k by omega)
  have := far_in zs.length (val zs) m K w (by omega) m0 mk k6
  rwa [ringOf_val hl] at this
end Go.Proofs.Ytcdkocdjbpebpaa
