/- Springs as they lie; walks of package spring: within, least, slack, what tells of one, and two numbers in the least ones. -/
import Derived.Test.YthbppojglhimnaaW1
import Derived.Test.YthbppojglhimnaaH2
import Derived.Test.YthbppojglhimnaaV1
import Derived.ProofKit
import Derived.OpenShut
import Derived.Carry
import Derived.Lib.SmallJoins
import Derived.Deep.SlicePairs
import Derived.Test.YthbppojglhimnaaV2
import Derived.Test.YthbppojglhimnaaM1
import Derived.Test.YthbppojglhimnaaA1
import Derived.Test.YthbppojglhimnaaE1
import Derived.Laws.AppendOwnNone
import Derived.Test.YthbppojglhimnaaU4
import Derived.Test.YthbppojglhimnaaW4
import Derived.ChangeKeysEq
import Derived.Lib.Mul64
import Derived.Test.YthbppojglhimnaaF1
import Derived.Deep.RegionHeld3
import Derived.BigQuiet
namespace Go.Proofs.Ythbppojglhimnaa
open Go.RowKit

/-- A list of springs that is read: U, Min and E of each. -/
def Sprs (w : World) (v : Value) (n : Nat) (u m e : Nat → Int) : Prop :=
  ∃ a cap, v = .slice a n cap ∧ n ≤ cap ∧ cap ≤ maxLen ∧ (a = none → cap = 0) ∧ (0 < n → ∃ b o, a = some ⟨b, o, none⟩ ∧ ∀ i, i < n → w.cell? ⟨b, o + i * 3, none⟩ = some (.int .i64 (u i)) ∧ w.cell? ⟨b, o + i * 3 + 1, none⟩ = some (.int .i64 (m i)) ∧ w.cell? ⟨b, o + i * 3 + 2, none⟩ = some (.int .i64 (e i)))
theorem Sprs.later {w w' : World} {v : Value} {n : Nat} {u m e : Nat → Int} (h : Sprs w v n u m e) (hb : Below w.heap.size w w') : Sprs w' v n u m e := by
  obtain ⟨a, cap, rfl, h1, h2, h0, h3⟩ := h
  refine ⟨a, cap, rfl, h1, h2, h0, fun hx => ?_⟩
  obtain ⟨b, o, rfl, h4⟩ := h3 hx
  exact ⟨b, o, rfl, fun i hi => ⟨cell_later hb (h4 i hi).1, cell_later hb (h4 i hi).2.1, cell_later hb (h4 i hi).2.2⟩⟩

/-- Three numbers that lie in a block. -/
def Thr (w : World) (b : Nat) (u m e : Int) : Prop := w.cell? ⟨b, 0, none⟩ = some (.int .i64 u) ∧ w.cell? ⟨b, 1, none⟩ = some (.int .i64 m) ∧ w.cell? ⟨b, 2, none⟩ = some (.int .i64 e)
theorem Thr.later {w w' : World} {b : Nat} {u m e : Int} (h : Thr w b u m e) (hb : Below w.heap.size w w') : Thr w' b u m e := ⟨cell_later hb h.1, cell_later hb h.2.1, cell_later hb h.2.2⟩
theorem Thr.new (w : World) (u m e : Int) (t : TypeId) : Thr (w.alloc (.cells #[.int .i64 u, .int .i64 m, .int .i64 e] t)) w.heap.size u m e := ⟨by simp, by simp, by simp⟩
theorem Thr.lt {w : World} {b : Nat} {u m e : Int} (h : Thr w b u m e) : b < w.heap.size := World.block_lt_of_cell? _ _ h.1
/-- A spring's least. -/
def lea (u m e : Int) : Int := if e = 0 then u else m

/-- How many units a spring has by a through b, rounded down. -/
def hasV (u m e a b : Int) : Int := max (u - cl (a * e) b) (lea u m e)
end Go.Proofs.Ythbppojglhimnaa
