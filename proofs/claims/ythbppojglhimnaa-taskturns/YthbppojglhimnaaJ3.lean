/- Walks of package job: what is left, what it has come to, what stays. -/
import Derived.Test.YthbppojglhimnaaJ2
namespace Go.Proofs.Ythbppojglhimnaa
open Go.RowKit

/-- What is left of a length. -/
def rstV (l x : Int) : Int := if x < l then l - x else 0
/-- What a job has come to, when it has run once more. -/
def cmtV (c d x : Int) : Int := (if c ≤ x + 1 then 1 else 0) + (if d ≤ x + 1 then 2 else 0)
/-- What stays of a job by its fate. -/
def aftJ (j : Jb) (f : Int) : Jb := if f = 0 then j else jbZ
end Go.Proofs.Ythbppojglhimnaa
