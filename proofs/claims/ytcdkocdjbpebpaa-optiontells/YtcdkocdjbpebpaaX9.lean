/- What follows of the least force: plain arithmetic. -/
import Derived.Test.YtcdkocdjbpebpaaX3
import Derived.Maps.RangeWalk
import Derived.Maps.Views
import Derived.BigQuiet
import Derived.Test.YtcdkocdjbpebpaaH2
import Derived.Test.YtcdkocdjbpebpaaV1
import Derived.ProofKit
import Derived.OpenShut
import Derived.Carry
import Derived.Lib.SmallJoins
import Derived.Deep.SlicePairs
import Derived.Test.YtcdkocdjbpebpaaW1
import Derived.Test.YtcdkocdjbpebpaaV2
import Derived.Test.YtcdkocdjbpebpaaM1
import Derived.Test.YtcdkocdjbpebpaaA1
import Derived.Test.YtcdkocdjbpebpaaE1
import Derived.Test.YtcdkocdjbpebpaaW4
import Derived.ChangeKeysEq
import Derived.Lib.Mul64
import Derived.Test.YtcdkocdjbpebpaaE4
import Derived.Test.YtcdkocdjbpebpaaF1
import Derived.Deep.RegionHeld3
namespace Go.Proofs.Ytcdkocdjbpebpaa

/-- What each has, rounded down. -/
def hv (u m e : Nat → Int) (a b : Int) (i : Nat) : Int := hasV (u i) (m i) (e i) a b

section
variable {n : Nat} {u m e : Nat → Int} {a b load : Int}
end
end Go.Proofs.Ytcdkocdjbpebpaa
