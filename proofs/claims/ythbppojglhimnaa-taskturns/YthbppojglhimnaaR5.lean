/- Walks of package ring: outcomes, Good, Fine and Far. -/
import Derived.Test.YthbppojglhimnaaR4
namespace Go.Proofs.Ythbppojglhimnaa
open Go.RowKit
/-- How many of the last n are good. -/
def goodR (zs : List Bool) (n : Int) : Nat := cntR zs 0 (if (zs.length : Int) < n then zs.length else n)
end Go.Proofs.Ythbppojglhimnaa
