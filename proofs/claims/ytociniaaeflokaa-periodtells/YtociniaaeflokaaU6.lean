/- The chapter's example of chapter 6. -/
import Derived.Test.YtociniaaeflokaaU1
import Derived.Test.YtociniaaeflokaaU4
namespace Go.Proofs.Ytociniaaeflokaa
open Go.RowKit

theorem nums_two (w : World) (a b : Int) : Nums (w.alloc (.cells #[.int .i64 a, .int .i64 b] 3)) (.slice (some ⟨w.heap.size, 0, none⟩) 2 2) [a, b] :=
  ⟨_, 2, rfl, by simp, by decide, fun _ => ⟨w.heap.size, 0, rfl, fun i hi => by
    match i, hi with
    | 0, _ => simp
    | 1, _ => simp⟩⟩
end Go.Proofs.Ytociniaaeflokaa
