/- Walks of package spec: May. -/
import Derived.Test.YtjaaabliefcgaaaE1
import Derived.Laws.EntriesVeiled
import Derived.Deep.WholeRow
namespace Go.Proofs.Ytjaaabliefcgaaa
open Go.RowKit

/-- Does the number at a place fit? -/
def fitB (s : Sp) (j : Nat) : Bool := match j with
  | 0 => fitC s
  | 1 => fitT s
  | 2 => fitX s
  | 3 => fitW s
  | 4 => fitW s
  | _ => fitE s
/-- Do the first ones fit? -/
def fitN (s : Sp) : Nat → Bool
  | 0 => true
  | j + 1 => fitN s j && fitB s j
def maySp (s : Sp) : Bool := fitN s 6
end Go.Proofs.Ytjaaabliefcgaaa
