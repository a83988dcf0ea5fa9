/- Walks of package pat, for all arguments: May, On, Count and Most. -/
import Derived.Test.YtjaaabliefcgaaaW2
import Derived.Deep.RegionWith
import Derived.Test.YtjaaabliefcgaaaW7
namespace Go.Proofs.Ytjaaabliefcgaaa
open Go.RowKit

def mayB (m k : Int) : Bool := decide (1 ≤ m ∧ m ≤ k ∧ k ≤ 6)
/-- How many of the first n jobs are mandatory. -/
def du (m k n : Int) : Int := cl (n * m) k
end Go.Proofs.Ytjaaabliefcgaaa
