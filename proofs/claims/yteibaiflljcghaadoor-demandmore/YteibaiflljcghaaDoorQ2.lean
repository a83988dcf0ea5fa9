/- The walks of the statements PatWindow and PatMost: each returns true, and writes nothing that was there. -/
import Derived.Test.YteibaiflljcghaaDoorA2
import Derived.Test.YteibaiflljcghaaDoorM1
namespace Go.Proofs.YteibaiflljcghaaDoor
open Go.RowKit

theorem du_yes {m k n : Int} (m0 : 1 ≤ m) (mk : m ≤ k) (k6 : k ≤ 6) (h : adB m k n = true) : du m k (n + 1) = du m k n + 1 := by
  have := du_step (n := n) m0 mk k6; rw [h] at this; simpa using this
theorem du_not {m k n : Int} (m0 : 1 ≤ m) (mk : m ≤ k) (k6 : k ≤ 6) (h : adB m k n = false) : du m k (n + 1) = du m k n := by
  have := du_step (n := n) m0 mk k6; rw [h] at this; simpa using this
end Go.Proofs.YteibaiflljcghaaDoor
