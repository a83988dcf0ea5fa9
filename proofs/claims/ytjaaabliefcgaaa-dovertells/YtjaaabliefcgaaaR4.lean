/- Walks of package ring: what tells of outcomes, and count. -/
import Derived.Test.YtjaaabliefcgaaaR1
import Derived.Deep.RegionWith
namespace Go.Proofs.Ytjaaabliefcgaaa
open Go.RowKit

/-- An outcome, by how many there are behind it; one that is missing is good. -/
def gd (zs : List Bool) (i : Nat) : Bool := zs.getD i true
/-- How many are good of those that have f to t - 1 behind them. -/
def cntR (zs : List Bool) (f : Nat) (t : Int) : Nat := cnt (gd zs) f (t - f).toNat
end Go.Proofs.Ytjaaabliefcgaaa
