/- What the statement DemandLess comes to. -/
import Derived.Test.YthbppojglhimnaaB2
import Derived.Test.YthbppojglhimnaaE4
import Derived.Test.YthbppojglhimnaaX3
import Derived.Maps.RangeWalk
import Derived.Maps.Views
import Derived.BigQuiet
import Derived.Test.YthbppojglhimnaaH2
import Derived.Test.YthbppojglhimnaaV1
import Derived.ProofKit
import Derived.OpenShut
import Derived.Carry
import Derived.Lib.SmallJoins
import Derived.Deep.SlicePairs
import Derived.Test.YthbppojglhimnaaW1
import Derived.Test.YthbppojglhimnaaV2
import Derived.Test.YthbppojglhimnaaM1
import Derived.Test.YthbppojglhimnaaA1
import Derived.Test.YthbppojglhimnaaE1
import Derived.Test.YthbppojglhimnaaU4
import Derived.Test.YthbppojglhimnaaF1
import Derived.Deep.RegionHeld3
import Derived.Laws.AppendOwnNone
import Derived.OwnWalk
import Derived.Test.YthbppojglhimnaaRows
import Derived.LaidMore
import Derived.Stop.Joined
import Derived.Test.YthbppojglhimnaaX9
import Derived.Maps.AppendAt
import Derived.WalkMore
import Derived.ScopeJumps
import Derived.ChangeKeysEq
import Derived.Lib.Mul64
import Derived.Deep.RegionWith
namespace Go.Proofs.Ythbppojglhimnaa
open Go.RowKit Go.Shelf
/-- An operation that its guard passes over: taken first, it leaves all as it is. -/
theorem held_skip {P : Program} {md : Region.Mode} {ops : Array Oper} {Q : Exit → Act → World → Prop} {S : World → Prop} {i : Nat} {oi : Oper} {fuel : Nat} {listed : Array Bool} {a : Act} {w : World} (hi : ops[i]? = some oi)
    (hs : Region.noSelect ops = true) (hf : Region.free md ops listed i = true) (hr : (Region.ready md ops listed).contains i = true)
    (hQ : ∀ c a w, Q (.panic c) (a.put oi.dst undef) w → Q (.panic c) a w) (hw : Region.wanted oi (yielded ops a.tmps) = false) (hp : a.put oi.dst undef = a) (hS : S w)
    (h : wpAnyH P md ops Q S fuel (listed.setIfInBounds i true) a w) : wpAnyH P md ops Q S (fuel + 1) listed a w :=
  wpAnyH_take hi hs hf hr hQ (Or.inr ⟨hw, rfl⟩) hS (by rw [hp]; exact h)
end Go.Proofs.Ythbppojglhimnaa
