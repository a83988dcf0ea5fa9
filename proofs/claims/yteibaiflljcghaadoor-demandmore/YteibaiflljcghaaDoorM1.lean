/- What pat's numbers are to one another: plain arithmetic. -/
import Derived.Test.YteibaiflljcghaaDoorA1
namespace Go.Proofs.YteibaiflljcghaaDoor
open Go.RowKit

theorem six {k : Int} (h : 1 ≤ k) (h' : k ≤ 6) : k = 1 ∨ k = 2 ∨ k = 3 ∨ k = 4 ∨ k = 5 ∨ k = 6 := by omega

theorem cl_add {x y k : Int} (h : 1 ≤ k) (h' : k ≤ 6) : cl x k + cl y k - 1 ≤ cl (x + y) k ∧ cl (x + y) k ≤ cl x k + cl y k := by
  rcases six h h' with rfl | rfl | rfl | rfl | rfl | rfl <;> unfold cl <;> constructor <;> split <;> split <;> split <;> omega

theorem cl_mono {x y k : Int} (h : 1 ≤ k) (h' : k ≤ 6) (l : x ≤ y) : cl x k ≤ cl y k := by
  rcases six h h' with rfl | rfl | rfl | rfl | rfl | rfl <;> unfold cl <;> split <;> split <;> omega

theorem du_zero (m k : Int) : du m k 0 = 0 := by unfold du cl; simp

theorem du_add {m k a b : Int} (m0 : 1 ≤ m) (mk : m ≤ k) (k6 : k ≤ 6) : du m k a + du m k b - 1 ≤ du m k (a + b) ∧ du m k (a + b) ≤ du m k a + du m k b := by
  unfold du; rw [Int.add_mul]; exact cl_add (by omega) k6

theorem du_mono {m k a b : Int} (m0 : 1 ≤ m) (mk : m ≤ k) (k6 : k ≤ 6) (h : a ≤ b) : du m k a ≤ du m k b := by
  unfold du
  exact cl_mono (by omega) k6 (Int.mul_le_mul_of_nonneg_right h (by omega))

theorem du_nonneg {m k n : Int} (m0 : 1 ≤ m) (mk : m ≤ k) (k6 : k ≤ 6) (h : 0 ≤ n) : 0 ≤ du m k n := by
  have := du_mono m0 mk k6 h; rw [du_zero] at this; exact this

/-- One job more: one mandatory one more, or none. -/
theorem du_step {m k n : Int} (m0 : 1 ≤ m) (mk : m ≤ k) (k6 : k ≤ 6) : du m k (n + 1) = du m k n + (if adB m k n = true then 1 else 0) := by
  have h1 := du_mono (a := n) (b := n + 1) m0 mk k6 (by omega)
  have h2 : du m k (n + 1) ≤ du m k n + 1 := by
    unfold du; rw [Int.add_mul]
    generalize n * m = x
    rcases six (show 1 ≤ k by omega) k6 with rfl | rfl | rfl | rfl | rfl | rfl <;> unfold cl <;> split <;> split <;> omega
  unfold adB
  by_cases h : du m k n < du m k (n + 1)
  · simp [h]; omega
  · simp [h]; omega

theorem mayB_mk {m k : Int} (m0 : 1 ≤ m) (mk : m ≤ k) (k6 : k ≤ 6) : mayB m k = true := decide_eq_true ⟨m0, mk, k6⟩
theorem jobB_mk {j : Int} (h : 0 ≤ j) (h' : j ≤ 1099511627776) : jobB j = true := decide_eq_true ⟨h, h'⟩
theorem onB_in {m k j : Int} (m0 : 1 ≤ m) (mk : m ≤ k) (k6 : k ≤ 6) (h : 0 ≤ j) (h' : j ≤ 1099511627776) : onB m k j = adB m k j := by
  unfold onB; rw [mayB_mk m0 mk k6, jobB_mk h h']; rfl
theorem mostV_in {m k n : Int} (m0 : 1 ≤ m) (mk : m ≤ k) (k6 : k ≤ 6) (g : 0 ≤ n) (g' : n ≤ 1099511627776) : mostV m k n = du m k n := by
  unfold mostV; rw [mayB_mk m0 mk k6, jobB_mk g g']; rfl
end Go.Proofs.YteibaiflljcghaaDoor
