/- Bytes; walks of package spec: what reads a description's numbers. -/
import Derived.Test.YthbppojglhimnaaE4
namespace Go.Proofs.Ythbppojglhimnaa
open Go.RowKit

/-- Bytes that are read. -/
def Bys (w : World) (v : Value) (ks : List Int) : Prop :=
  ∃ a cap, v = .slice a ks.length cap ∧ ks.length ≤ cap ∧ cap ≤ maxLen ∧ (a = none → cap = 0) ∧ (∀ i, i < ks.length → 0 ≤ ks.getD i 0 ∧ ks.getD i 0 ≤ 255) ∧ (ks ≠ [] → ∃ b o, a = some ⟨b, o, none⟩ ∧ ∀ i, i < ks.length → w.cell? ⟨b, o + i, none⟩ = some (.int .u8 (ks.getD i 0)))
theorem Bys.later {w w' : World} {v : Value} {ks : List Int} (h : Bys w v ks) (hb : Below w.heap.size w w') : Bys w' v ks := by
  obtain ⟨a, cap, rfl, h1, h2, h3, h4, h5⟩ := h
  refine ⟨a, cap, rfl, h1, h2, h3, h4, fun hx => ?_⟩
  obtain ⟨b, o, rfl, h6⟩ := h5 hx
  exact ⟨b, o, rfl, fun i hi => cell_later hb (h6 i hi)⟩
theorem Bys.none (w : World) : Bys w (.slice none 0 0) [] := ⟨Option.none, 0, rfl, by simp, by simp, fun _ => rfl, fun i hi => by simp at hi, fun h => absurd rfl h⟩
def lst (s : Sp) : List Int := [s.c, s.t, s.x, s.m, s.k, s.e]
end Go.Proofs.Ythbppojglhimnaa
