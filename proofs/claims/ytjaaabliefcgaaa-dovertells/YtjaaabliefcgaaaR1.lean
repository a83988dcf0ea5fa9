/- What a ring is: a list of outcomes, the last one first; and what is counted of it. Plain arithmetic. -/
import Derived.Test.YtjaaabliefcgaaaM1
namespace Go.Proofs.Ytjaaabliefcgaaa
open Go.RowKit
/-- How many of n numbers from a on have f. -/
def cnt (f : Nat → Bool) (a : Nat) : Nat → Nat
  | 0 => 0
  | n + 1 => cnt f a n + (f (a + n)).toNat
end Go.Proofs.Ytjaaabliefcgaaa
