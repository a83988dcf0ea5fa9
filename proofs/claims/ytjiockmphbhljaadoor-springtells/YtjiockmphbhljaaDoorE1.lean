/- Walks of package spec: the numbers of a description, and what each must be. -/
import Derived.Test.YtjiockmphbhljaaDoorW8
import Derived.Laws.EntriesVeiled
import Derived.Deep.RegionHeld3
namespace Go.Proofs.YtjiockmphbhljaaDoor
open Go.RowKit
def wiB (n a b : Int) : Bool := decide (a ≤ n ∧ n ≤ b)
end Go.Proofs.YtjiockmphbhljaaDoor
