/- Lists of outcomes as they are read; walks of Of and of Bools. -/
import Derived.Test.YteibaiflljcghaaDoorM1
import Derived.Deep.RegionWith
import Derived.Test.YteibaiflljcghaaDoorA2
import Derived.Test.YteibaiflljcghaaDoorQ2
namespace Go.Proofs.YteibaiflljcghaaDoor
open Go.RowKit
/-- Two cells that may be written. -/
def Two (w : World) (b : Nat) (u v : Value) : Prop := w.cell? ⟨b, 0, none⟩ = some u ∧ w.cell? ⟨b, 1, none⟩ = some v ∧ w.frozen? ⟨b, 0, none⟩ = false ∧ w.frozen? ⟨b, 1, none⟩ = false
theorem Two.later {w w' : World} {b : Nat} {u v : Value} (h : Two w b u v) (hb : Below w.heap.size w w') : Two w' b u v := by
  obtain ⟨h0, h1, h2, h3⟩ := h
  have hl := World.block_lt_of_cell? _ _ h0
  exact ⟨cell_later hb h0, cell_later hb h1, (hb.frozen (p := ⟨b, 0, none⟩) hl).trans h2, (hb.frozen (p := ⟨b, 1, none⟩) hl).trans h3⟩
theorem Two.put {w : World} {b : Nat} {u v : Value} (h : Two w b u v) (u' v' : Value) : Two ((w.setCell ⟨b, 0, none⟩ u').setCell ⟨b, 1, none⟩ v') b u' v' := by
  obtain ⟨h0, h1, h2, h3⟩ := h
  refine ⟨?_, ?_, by simpa using h2, by simpa using h3⟩
  · rw [World.cell?_setCell_other _ _ _ _ (by simp)]; exact World.cell?_setCell_same _ _ _ h0
  · exact World.cell?_setCell_same (u := v) _ _ _ (by rw [World.cell?_setCell_other _ _ _ _ (by simp)]; exact h1)
end Go.Proofs.YteibaiflljcghaaDoor
