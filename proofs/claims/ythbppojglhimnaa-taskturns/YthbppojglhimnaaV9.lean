/- Tasks at their periods, and lists of them, that are arguments: what they hold. -/
import Derived.Test.YthbppojglhimnaaB2
import Derived.Test.YthbppojglhimnaaE4
import Derived.Test.YthbppojglhimnaaX3
import Derived.Maps.RangeWalk
import Derived.Maps.Views
import Derived.BigQuiet
import Derived.Test.YthbppojglhimnaaH2
import Derived.Test.YthbppojglhimnaaV1
import Derived.ProofKit
import Derived.OpenShut
import Derived.Carry
import Derived.Lib.SmallJoins
import Derived.Deep.SlicePairs
import Derived.Test.YthbppojglhimnaaW1
import Derived.Test.YthbppojglhimnaaV2
import Derived.Test.YthbppojglhimnaaM1
import Derived.Test.YthbppojglhimnaaA1
import Derived.Test.YthbppojglhimnaaE1
import Derived.Test.YthbppojglhimnaaU4
import Derived.Test.YthbppojglhimnaaF1
import Derived.Deep.RegionHeld3
import Derived.Laws.AppendOwnNone
import Derived.OwnWalk
import Derived.Test.YthbppojglhimnaaRows
import Derived.LaidMore
import Derived.Stop.Joined
import Derived.Test.YthbppojglhimnaaX9
import Derived.Maps.AppendAt
import Derived.Test.YthbppojglhimnaaV5
import Derived.SizedLaws
namespace Go.Proofs.Ythbppojglhimnaa
open Go.ChangeShapes Go.WideShapes Go.RowKit Go.Deep Go.Joins

/-- A struct of six integers, as cells. -/
theorem trod_six {H : Type} {enc : TypeId × Value → H} {P : Program} {w : World} {base n : Nat} {spare : Nat → Bool} {held : Bool} {t : TypeId} {g0 g1 g2 g3 g4 g5 : Field} {v0 v1 v2 v3 v4 v5 : Value} {y : DataW H × List MemPlace}
    (hs : P.underlying t = some (.struct #[g0, g1, g2, g3, g4, g5])) (hone : oneCellFields P #[g0, g1, g2, g3, g4, g5] = true)
    (u0 : P.underlying g0.type = some (.int .i64)) (u1 : P.underlying g1.type = some (.int .i64)) (u2 : P.underlying g2.type = some (.int .i64)) (u3 : P.underlying g3.type = some (.int .i64)) (u4 : P.underlying g4.type = some (.int .i64)) (u5 : P.underlying g5.type = some (.int .i64))
    (h : DataW.trod enc P w base spare held n t [v0, v1, v2, v3, v4, v5] = some y) : ∃ c t x m k e : Int, v0 = .int .i64 c ∧ v1 = .int .i64 t ∧ v2 = .int .i64 x ∧ v3 = .int .i64 m ∧ v4 = .int .i64 k ∧ v5 = .int .i64 e := by
  obtain ⟨xs, kk, _, _, _, hlen, hg⟩ := DataW.trod_struct hs h
  have each : ∀ (i : Nat) (f : Field) (c : Value), #[g0, g1, g2, g3, g4, g5][i]? = some f → #[v0, v1, v2, v3, v4, v5][i]? = some c → P.underlying f.type = some (.int .i64) → ∃ a, c = .int .i64 a := by
    intro i f c hi hc hu
    obtain ⟨o, kc⟩ := hone_of hone i f hi
    have hlt : i < xs.length := by
      have := (Array.getElem?_eq_some_iff.1 hi).1
      simp at this hlen; omega
    have := hg i f hi
    rw [List.getElem?_eq_getElem hlt, o, kc] at this
    obtain ⟨a, e, _⟩ := see_field (enc := enc) (w := w) (base := base) (spare := spare) (held := held) (n := kk) (c := c) hu (y := xs[i]) (by
      rw [← this]
      congr 1
      have hl : i < 6 := by have := (Array.getElem?_eq_some_iff.1 hi).1; simpa using this
      rcases (show i = 0 ∨ i = 1 ∨ i = 2 ∨ i = 3 ∨ i = 4 ∨ i = 5 by omega) with rfl | rfl | rfl | rfl | rfl | rfl <;> simp at hc <;> subst hc <;> rfl)
    exact ⟨a, e⟩
  obtain ⟨a0, e0⟩ := each 0 g0 v0 rfl rfl u0
  obtain ⟨a1, e1⟩ := each 1 g1 v1 rfl rfl u1
  obtain ⟨a2, e2⟩ := each 2 g2 v2 rfl rfl u2
  obtain ⟨a3, e3⟩ := each 3 g3 v3 rfl rfl u3
  obtain ⟨a4, e4⟩ := each 4 g4 v4 rfl rfl u4
  obtain ⟨a5, e5⟩ := each 5 g5 v5 rfl rfl u5
  exact ⟨a0, a1, a2, a3, a4, a5, e0, e1, e2, e3, e4, e5⟩
end Go.Proofs.Ythbppojglhimnaa
