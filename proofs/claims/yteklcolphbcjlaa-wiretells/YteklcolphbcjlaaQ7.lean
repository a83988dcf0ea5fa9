/- Texts that belong together, one behind the other: J6. -/
import Derived.Test.YteklcolphbcjlaaQ2
import Derived.Test.YteklcolphbcjlaaQ1
import Derived.Deep.RegionHeld3
import Derived.Laws.StructEq
import Derived.Deep.RegionWith
import Derived.Shelf.Abstract
import Derived.Test.YteklcolphbcjlaaQ5
import Derived.Test.YteklcolphbcjlaaQ3
import Derived.Test.YteklcolphbcjlaaQ6
import Derived.Test.YteklcolphbcjlaaRows
import Derived.ProofKit
import Derived.LaidMore
import Derived.OpenShut
import Derived.Stop.Joined
import Derived.Test.YteklcolphbcjlaaQ4
import Derived.Maps.AppendAt
import Derived.Laws.AppendOwnNone
import Derived.WalkMore
import Derived.ScopeJumps
import Derived.BigQuiet
import Derived.ChangeKeysEq
import Derived.Lib.Mul64
/- Walks of package job: isOf (a drawn region of 64 operations, in which guards pass over most: by hand). -/
namespace Go.Proofs.Yteklcolphbcjlaa
open Go.RowKit Go.Shelf

/-- Is one that is there a job of a spec? -/
def isB (s : Sp) (j : Jb) : Bool := j.on && jinB s j
end Go.Proofs.Yteklcolphbcjlaa
