/- The chapter's example of chapter 6. -/
import Derived.Test.YteibaiflljcghaaDoorU2
import Derived.Test.YteibaiflljcghaaDoorU4
namespace Go.Proofs.YteibaiflljcghaaDoor
open Go.RowKit

theorem nums_two (w : World) (a b : Int) : Nums (w.alloc (.cells #[.int .i64 a, .int .i64 b] 3)) (.slice (some ⟨w.heap.size, 0, none⟩) 2 2) [a, b] :=
  ⟨_, 2, rfl, by simp, by decide, fun _ => ⟨w.heap.size, 0, rfl, fun i hi => by
    match i, hi with
    | 0, _ => simp
    | 1, _ => simp⟩⟩
theorem nums_one (w : World) (a : Int) : Nums (w.alloc (.cells #[.int .i64 a] 3)) (.slice (some ⟨w.heap.size, 0, none⟩) 1 1) [a] :=
  ⟨_, 1, rfl, by simp, by decide, fun _ => ⟨w.heap.size, 0, rfl, fun i hi => by
    match i, hi with
    | 0, _ => simp⟩⟩
end Go.Proofs.YteibaiflljcghaaDoor
