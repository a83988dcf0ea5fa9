/- What follows of the least force: plain arithmetic. -/
import Derived.Test.YtociniaaeflokaaX8
namespace Go.Proofs.Ytociniaaeflokaa

/-- What each has, rounded down. -/
def hv (u m e : Nat → Int) (a b : Int) (i : Nat) : Int := hasV (u i) (m i) (e i) a b

section
variable {n : Nat} {u m e : Nat → Int} {a b load : Int}
end
end Go.Proofs.Ytociniaaeflokaa
