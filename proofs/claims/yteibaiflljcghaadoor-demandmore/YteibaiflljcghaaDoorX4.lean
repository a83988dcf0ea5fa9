/- Walks of package spring: what is told of each, and all of it together; May and Room. -/
import Derived.Test.YteibaiflljcghaaDoorX3
namespace Go.Proofs.YteibaiflljcghaaDoor
open Go.RowKit

/-- g of the first n numbers, one by one. -/
def lst7 (n : Nat) (g : Nat → Int) : List Int := (List.range n).map g
theorem lst7_len (n : Nat) (g : Nat → Int) : (lst7 n g).length = n := by simp [lst7]
theorem lst7_sum (n : Nat) (g : Nat → Int) : (lst7 n g).sum = sm n g := by
  unfold lst7
  induction n with
  | zero => rfl
  | succ n ih => rw [List.range_succ, List.map_append, List.sum_append, ih]; simp [sm]
end Go.Proofs.YteibaiflljcghaaDoor
