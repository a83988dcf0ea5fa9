/- What follows of the least force: plain arithmetic. -/
import Derived.Test.YteibaiflljcghaaDoorX4
import Derived.Maps.RangeWalk
import Derived.Maps.Views
import Derived.BigQuiet
import Derived.Test.YteibaiflljcghaaDoorU6
namespace Go.Proofs.YteibaiflljcghaaDoor

/-- What each has, rounded down. -/
def hv (u m e : Nat → Int) (a b : Int) (i : Nat) : Int := hasV (u i) (m i) (e i) a b

section
variable {n : Nat} {u m e : Nat → Int} {a b load : Int}
end
end Go.Proofs.YteibaiflljcghaaDoor
