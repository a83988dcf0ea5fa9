/- What pat's numbers are to one another: plain arithmetic. -/
import Derived.Test.YtociniaaeflokaaA1
namespace Go.Proofs.Ytociniaaeflokaa
open Go.RowKit

theorem six {k : Int} (h : 1 ≤ k) (h' : k ≤ 6) : k = 1 ∨ k = 2 ∨ k = 3 ∨ k = 4 ∨ k = 5 ∨ k = 6 := by omega
end Go.Proofs.Ytociniaaeflokaa
