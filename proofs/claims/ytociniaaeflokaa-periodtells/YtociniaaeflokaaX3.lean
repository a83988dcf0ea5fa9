/- Springs as they lie; walks of package spring: within, least, slack, what tells of one, and two numbers in the least ones. -/
import Derived.Test.YtociniaaeflokaaW1
import Derived.Test.YtociniaaeflokaaU9
import Derived.Test.YtociniaaeflokaaU7
import Derived.ChangeKeysEq
import Derived.Lib.Mul64
import Derived.Deep.RegionWith
import Derived.Test.YtociniaaeflokaaF1
import Derived.Deep.RegionHeld3
import Derived.BigQuiet
namespace Go.Proofs.Ytociniaaeflokaa
open Go.RowKit
/-- A spring's least. -/
def lea (u m e : Int) : Int := if e = 0 then u else m

/-- How many units a spring has by a through b, rounded down. -/
def hasV (u m e a b : Int) : Int := max (u - cl (a * e) b) (lea u m e)
end Go.Proofs.Ytociniaaeflokaa
