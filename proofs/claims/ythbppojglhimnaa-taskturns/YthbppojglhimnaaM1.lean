/- What pat's numbers are to one another: plain arithmetic. -/
import Derived.Test.YthbppojglhimnaaA1
namespace Go.Proofs.Ythbppojglhimnaa
open Go.RowKit

theorem six {k : Int} (h : 1 ≤ k) (h' : k ≤ 6) : k = 1 ∨ k = 2 ∨ k = 3 ∨ k = 4 ∨ k = 5 ∨ k = 6 := by omega

theorem mayB_mk {m k : Int} (m0 : 1 ≤ m) (mk : m ≤ k) (k6 : k ≤ 6) : mayB m k = true := decide_eq_true ⟨m0, mk, k6⟩
end Go.Proofs.Ythbppojglhimnaa
