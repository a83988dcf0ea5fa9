/- Walks of chapter 5: what is the same; the document's example. -/
import Derived.Test.YthbppojglhimnaaE5
import Derived.Laws.StructEq
namespace Go.Proofs.Ythbppojglhimnaa
open Go.RowKit

/-- Are two descriptions the same? -/
def spB (c t x m k e c' t' x' m' k' e' : Int) : Bool := decide (c = c') && (decide (t = t') && (decide (x = x') && (decide (m = m') && (decide (k = k') && decide (e = e')))))
theorem spB_self (c t x m k e : Int) : spB c t x m k e c t x m k e = true := by simp [spB]
set_option maxHeartbeats 1000000 in
theorem sp_eql (c t x m k e c' t' x' m' k' e' : Int) (w : World) : (binOp .eql 23 (.agg #[.int .i64 c, .int .i64 t, .int .i64 x, .int .i64 m, .int .i64 k, .int .i64 e]) (.agg #[.int .i64 c', .int .i64 t', .int .i64 x', .int .i64 m', .int .i64 k', .int .i64 e'])).run Try.prog w = .ok (.bool (spB c t x m k e c' t' x' m' k' e')) w := by
  unfold spB
  by_cases h0 : c = c'
  rotate_left
  · simp [go_sem, h0]
  by_cases h1 : t = t'
  rotate_left
  · simp [go_sem, h0, h1]
  by_cases h2 : x = x'
  rotate_left
  · simp [go_sem, h0, h1, h2]
  by_cases h3 : m = m'
  rotate_left
  · simp [go_sem, h0, h1, h2, h3]
  by_cases h4 : k = k'
  rotate_left
  · simp [go_sem, h0, h1, h2, h3, h4]
  by_cases h5 : e = e'
  rotate_left
  · simp [go_sem, h0, h1, h2, h3, h4, h5]
  simp [go_sem, h0, h1, h2, h3, h4, h5]
set_option maxHeartbeats 1000000 in
theorem sp_neq (c t x m k e c' t' x' m' k' e' : Int) (w : World) : (binOp .neq 23 (.agg #[.int .i64 c, .int .i64 t, .int .i64 x, .int .i64 m, .int .i64 k, .int .i64 e]) (.agg #[.int .i64 c', .int .i64 t', .int .i64 x', .int .i64 m', .int .i64 k', .int .i64 e'])).run Try.prog w = .ok (.bool (!spB c t x m k e c' t' x' m' k' e')) w := by
  unfold spB
  by_cases h0 : c = c'
  rotate_left
  · simp [go_sem, h0]
  by_cases h1 : t = t'
  rotate_left
  · simp [go_sem, h0, h1]
  by_cases h2 : x = x'
  rotate_left
  · simp [go_sem, h0, h1, h2]
  by_cases h3 : m = m'
  rotate_left
  · simp [go_sem, h0, h1, h2, h3]
  by_cases h4 : k = k'
  rotate_left
  · simp [go_sem, h0, h1, h2, h3, h4]
  by_cases h5 : e = e'
  rotate_left
  · simp [go_sem, h0, h1, h2, h3, h4, h5]
  simp [go_sem, h0, h1, h2, h3, h4, h5]
theorem bys_lit (w : World) (c t x m k e : Int) (h : ∀ i, i < 6 → 0 ≤ (lst ⟨c, t, x, m, k, e⟩).getD i 0 ∧ (lst ⟨c, t, x, m, k, e⟩).getD i 0 ≤ 255) : Bys (w.alloc (.cells #[.int .u8 c, .int .u8 t, .int .u8 x, .int .u8 m, .int .u8 k, .int .u8 e] 5)) (.slice (some ⟨w.heap.size, 0, none⟩) 6 6) (lst ⟨c, t, x, m, k, e⟩) := by
  refine ⟨_, 6, rfl, Nat.le_refl _, (by unfold maxLen; omega), (fun h => by cases h), h, fun _ => ⟨_, 0, rfl, fun i hi => ?_⟩⟩
  have hi' : i < 6 := hi
  rcases (show i = 0 ∨ i = 1 ∨ i = 2 ∨ i = 3 ∨ i = 4 ∨ i = 5 by omega) with rfl | rfl | rfl | rfl | rfl | rfl <;> simp [lst]
end Go.Proofs.Ythbppojglhimnaa
