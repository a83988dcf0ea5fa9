/- Lists of outcomes as they are read; walks of Of and of Bools. -/
import Derived.Test.YthbppojglhimnaaR7
namespace Go.Proofs.Ythbppojglhimnaa
open Go.RowKit

/-- A list of bools that is read. -/
def Row (w : World) (v : Value) (xs : List Bool) : Prop :=
  ∃ a cap, v = .slice a xs.length cap ∧ xs.length ≤ cap ∧ cap ≤ maxLen ∧ (xs ≠ [] → ∃ b o, a = some ⟨b, o, none⟩ ∧ ∀ i x, xs[i]? = some x → w.cell? ⟨b, o + i, none⟩ = some (.bool x))

theorem Row.later {w w' : World} {v : Value} {xs : List Bool} (h : Row w v xs) (hb : Below w.heap.size w w') : Row w' v xs := by
  obtain ⟨a, cap, rfl, h1, h2, h3⟩ := h
  refine ⟨a, cap, rfl, h1, h2, fun hx => ?_⟩
  obtain ⟨b, o, rfl, h4⟩ := h3 hx
  exact ⟨b, o, rfl, fun i x hi => cell_later hb (h4 i x hi)⟩

theorem bvs_at {xs : List Bool} {i : Nat} {x : Bool} (h : xs[i]? = some x) : (bvs xs)[i]? = some (.bool x) := by
  unfold bvs; rw [List.getElem?_map, h]; rfl

theorem Row.own {w : World} {base : Nat} {v : Value} {n : Nat} {xs : List Bool} (h : w.ownsRow base 4 1 v n (bvs xs)) (hn : n = xs.length) : Row w v xs := by
  subst hn
  have hcs := fun g hg => h.cells (g := g) hg
  obtain ⟨_, ⟨rfl, hz⟩ | ⟨g, cap, cur, rfl, hb, hh, h1, h2, _⟩⟩ := h
  · obtain rfl : xs = [] := List.eq_nil_of_length_eq_zero hz
    exact ⟨none, 0, rfl, by simp, by simp, fun h => absurd rfl h⟩
  · refine ⟨_, cap, rfl, h1, h2, fun _ => ⟨g, 0, rfl, fun i x hi => ?_⟩⟩
    have := hcs g rfl i _ (bvs_at hi)
    cases i with
    | zero => simpa [Addr.add] using this
    | succ i => simpa [Addr.add] using this

/-- What is left of outcomes when all are put. -/
def ofZ (xs : List Bool) : List Bool := xs.reverse.take 60

theorem take_next {xs : List Bool} {j : Nat} {x : Bool} (h : xs[j]? = some x) : xs.take (j + 1) = xs.take j ++ [x] := by
  rw [List.take_add_one, h]; rfl

/-- Two cells that may be written. -/
def Two (w : World) (b : Nat) (u v : Value) : Prop := w.cell? ⟨b, 0, none⟩ = some u ∧ w.cell? ⟨b, 1, none⟩ = some v ∧ w.frozen? ⟨b, 0, none⟩ = false ∧ w.frozen? ⟨b, 1, none⟩ = false
theorem Two.later {w w' : World} {b : Nat} {u v : Value} (h : Two w b u v) (hb : Below w.heap.size w w') : Two w' b u v := by
  obtain ⟨h0, h1, h2, h3⟩ := h
  have hl := World.block_lt_of_cell? _ _ h0
  exact ⟨cell_later hb h0, cell_later hb h1, (hb.frozen (p := ⟨b, 0, none⟩) hl).trans h2, (hb.frozen (p := ⟨b, 1, none⟩) hl).trans h3⟩
theorem Two.put {w : World} {b : Nat} {u v : Value} (h : Two w b u v) (u' v' : Value) : Two ((w.setCell ⟨b, 0, none⟩ u').setCell ⟨b, 1, none⟩ v') b u' v' := by
  obtain ⟨h0, h1, h2, h3⟩ := h
  refine ⟨?_, ?_, by simpa using h2, by simpa using h3⟩
  · rw [World.cell?_setCell_other _ _ _ _ (by simp)]; exact World.cell?_setCell_same _ _ _ h0
  · exact World.cell?_setCell_same (u := v) _ _ _ (by rw [World.cell?_setCell_other _ _ _ _ (by simp)]; exact h1)
theorem Two.other {w : World} {b c i : Nat} {u v : Value} (h : Two w b u v) (hc : c ≠ b) (x : Value) : Two (w.setCell ⟨c, i, none⟩ x) b u v := by
  obtain ⟨h0, h1, h2, h3⟩ := h
  exact ⟨by rw [World.cell?_setCell_other _ _ _ _ (fun h => hc (congrArg Addr.block h))]; exact h0, by rw [World.cell?_setCell_other _ _ _ _ (fun h => hc (congrArg Addr.block h))]; exact h1, by simpa using h2, by simpa using h3⟩
end Go.Proofs.Ythbppojglhimnaa
