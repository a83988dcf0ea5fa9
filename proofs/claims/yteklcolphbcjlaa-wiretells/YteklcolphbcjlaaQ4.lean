/- Texts that belong together, one behind the other: X9. -/
import Derived.Test.YteklcolphbcjlaaQ3
/- What follows of the least force: plain arithmetic. -/
namespace Go.Proofs.Yteklcolphbcjlaa

/-- What each has, rounded down. -/
def hv (u m e : Nat → Int) (a b : Int) (i : Nat) : Int := hasV (u i) (m i) (e i) a b

section
variable {n : Nat} {u m e : Nat → Int} {a b load : Int}
end
end Go.Proofs.Yteklcolphbcjlaa
