/- What follows of the least force: plain arithmetic. -/
import Derived.Test.YthbppojglhimnaaX3
import Derived.Maps.RangeWalk
import Derived.Maps.Views
import Derived.BigQuiet
import Derived.Test.YthbppojglhimnaaH2
import Derived.Test.YthbppojglhimnaaV1
import Derived.ProofKit
import Derived.OpenShut
import Derived.Carry
import Derived.Lib.SmallJoins
import Derived.Deep.SlicePairs
import Derived.Test.YthbppojglhimnaaW1
import Derived.Test.YthbppojglhimnaaV2
import Derived.Test.YthbppojglhimnaaM1
import Derived.Test.YthbppojglhimnaaA1
import Derived.Test.YthbppojglhimnaaE1
import Derived.Test.YthbppojglhimnaaU4
namespace Go.Proofs.Ythbppojglhimnaa

/-- What each has, rounded down. -/
def hv (u m e : Nat → Int) (a b : Int) (i : Nat) : Int := hasV (u i) (m i) (e i) a b

section
variable {n : Nat} {u m e : Nat → Int} {a b load : Int}
end
end Go.Proofs.Ythbppojglhimnaa
