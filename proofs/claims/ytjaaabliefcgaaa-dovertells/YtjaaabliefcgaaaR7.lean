/- Walks of package ring: List. -/
import Derived.Test.YtjaaabliefcgaaaR4
import Derived.Test.YtjaaabliefcgaaaA1
import Derived.Test.YtjaaabliefcgaaaM1
import Derived.Deep.RegionWith
namespace Go.Proofs.Ytjaaabliefcgaaa
open Go.RowKit
/-- A list of outcomes, as cells. -/
def bvs (xs : List Bool) : List Value := xs.map Value.bool
end Go.Proofs.Ytjaaabliefcgaaa
