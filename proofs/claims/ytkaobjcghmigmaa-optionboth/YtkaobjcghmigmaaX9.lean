/- What follows of the least force: plain arithmetic. -/
import Derived.Test.YtkaobjcghmigmaaX3
import Derived.Maps.RangeWalk
import Derived.Maps.Views
import Derived.BigQuiet
import Derived.Test.YtkaobjcghmigmaaH2
import Derived.Test.YtkaobjcghmigmaaV1
import Derived.ProofKit
import Derived.OpenShut
import Derived.Carry
import Derived.Lib.SmallJoins
import Derived.Deep.SlicePairs
import Derived.Test.YtkaobjcghmigmaaW1
import Derived.Test.YtkaobjcghmigmaaV2
import Derived.Test.YtkaobjcghmigmaaM1
import Derived.Test.YtkaobjcghmigmaaA1
import Derived.Test.YtkaobjcghmigmaaE1
import Derived.Test.YtkaobjcghmigmaaW4
import Derived.ChangeKeysEq
import Derived.Lib.Mul64
import Derived.Test.YtkaobjcghmigmaaE4
import Derived.Test.YtkaobjcghmigmaaF1
import Derived.Deep.RegionHeld3
namespace Go.Proofs.Ytkaobjcghmigmaa

/-- What each has, rounded down. -/
def hv (u m e : Nat → Int) (a b : Int) (i : Nat) : Int := hasV (u i) (m i) (e i) a b

section
variable {n : Nat} {u m e : Nat → Int} {a b load : Int}
end
end Go.Proofs.Ytkaobjcghmigmaa
