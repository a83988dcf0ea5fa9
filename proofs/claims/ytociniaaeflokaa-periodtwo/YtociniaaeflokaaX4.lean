/- Walks of package spring: what is told of each, and all of it together; May and Room. -/
import Derived.Test.YtociniaaeflokaaX3
namespace Go.Proofs.Ytociniaaeflokaa
open Go.RowKit

/-- g of the first n numbers, one by one. -/
def lst7 (n : Nat) (g : Nat → Int) : List Int := (List.range n).map g
theorem lst7_len (n : Nat) (g : Nat → Int) : (lst7 n g).length = n := by simp [lst7]
theorem lst7_at {n : Nat} {g : Nat → Int} {i : Nat} (h : i < n) : (lst7 n g).getD i 0 = g i := by simp [lst7, List.getD, h]
end Go.Proofs.Ytociniaaeflokaa
