/- What pat's numbers are to one another: plain arithmetic. -/
import Derived.Test.YtjaaabliefcgaaaA1
namespace Go.Proofs.Ytjaaabliefcgaaa
open Go.RowKit

theorem six {k : Int} (h : 1 ≤ k) (h' : k ≤ 6) : k = 1 ∨ k = 2 ∨ k = 3 ∨ k = 4 ∨ k = 5 ∨ k = 6 := by omega

theorem cl_add {x y k : Int} (h : 1 ≤ k) (h' : k ≤ 6) : cl x k + cl y k - 1 ≤ cl (x + y) k ∧ cl (x + y) k ≤ cl x k + cl y k := by
  rcases six h h' with rfl | rfl | rfl | rfl | rfl | rfl <;> unfold cl <;> constructor <;> split <;> split <;> split <;> omega

theorem du_add {m k a b : Int} (m0 : 1 ≤ m) (mk : m ≤ k) (k6 : k ≤ 6) : du m k a + du m k b - 1 ≤ du m k (a + b) ∧ du m k (a + b) ≤ du m k a + du m k b := by
  unfold du; rw [Int.add_mul]; exact cl_add (by omega) k6
end Go.Proofs.Ytjaaabliefcgaaa
