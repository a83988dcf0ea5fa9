/- What the statement DemandLess comes to. -/
import Derived.Test.YtkaobjcghmigmaaB2
import Derived.Test.YtkaobjcghmigmaaE4
import Derived.Test.YtkaobjcghmigmaaX3
import Derived.Maps.RangeWalk
import Derived.Maps.Views
import Derived.BigQuiet
import Derived.Test.YtkaobjcghmigmaaH2
import Derived.Test.YtkaobjcghmigmaaV1
import Derived.ProofKit
import Derived.OpenShut
import Derived.Carry
import Derived.Lib.SmallJoins
import Derived.Deep.SlicePairs
import Derived.Test.YtkaobjcghmigmaaW1
import Derived.Test.YtkaobjcghmigmaaV2
import Derived.Test.YtkaobjcghmigmaaM1
import Derived.Test.YtkaobjcghmigmaaA1
import Derived.Test.YtkaobjcghmigmaaE1
import Derived.Test.YtkaobjcghmigmaaW4
import Derived.ChangeKeysEq
import Derived.Lib.Mul64
import Derived.Test.YtkaobjcghmigmaaF1
import Derived.Deep.RegionHeld3
import Derived.Laws.AppendOwnNone
import Derived.OwnWalk
import Derived.Test.YtkaobjcghmigmaaRows
import Derived.LaidMore
import Derived.Stop.Joined
import Derived.Test.YtkaobjcghmigmaaX9
import Derived.Maps.AppendAt
import Derived.Test.YtkaobjcghmigmaaA5
import Derived.WalkMore
import Derived.ScopeJumps
import Derived.Deep.RegionWith
namespace Go.Proofs.Ytkaobjcghmigmaa
open Go.RowKit Go.Shelf
/-- An operation that its guard passes over: taken first, it leaves all as it is. -/
theorem held_skip {P : Program} {md : Region.Mode} {ops : Array Oper} {Q : Exit → Act → World → Prop} {S : World → Prop} {i : Nat} {oi : Oper} {fuel : Nat} {listed : Array Bool} {a : Act} {w : World} (hi : ops[i]? = some oi)
    (hs : Region.noSelect ops = true) (hf : Region.free md ops listed i = true) (hr : (Region.ready md ops listed).contains i = true)
    (hQ : ∀ c a w, Q (.panic c) (a.put oi.dst undef) w → Q (.panic c) a w) (hw : Region.wanted oi (yielded ops a.tmps) = false) (hp : a.put oi.dst undef = a) (hS : S w)
    (h : wpAnyH P md ops Q S fuel (listed.setIfInBounds i true) a w) : wpAnyH P md ops Q S (fuel + 1) listed a w :=
  wpAnyH_take hi hs hf hr hQ (Or.inr ⟨hw, rfl⟩) hS (by rw [hp]; exact h)
end Go.Proofs.Ytkaobjcghmigmaa
