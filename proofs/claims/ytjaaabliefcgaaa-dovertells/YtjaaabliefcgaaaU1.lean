/- Lists of integers that are read, the table of limits, and walks of Sum and Fits of package units, and of the document's own. -/
import Derived.Test.YtjaaabliefcgaaaV3
import Derived.Test.YtjaaabliefcgaaaW1
import Derived.Test.YtjaaabliefcgaaaV2
import Derived.Test.YtjaaabliefcgaaaM1
import Derived.Test.YtjaaabliefcgaaaA1
import Derived.Test.YtjaaabliefcgaaaE1
namespace Go.Proofs.Ytjaaabliefcgaaa
open Go.RowKit

theorem Nums.later {w w' : World} {v : Value} {xs : List Int} (h : Nums w v xs) (hb : Below w.heap.size w w') : Nums w' v xs := by
  obtain ⟨a, cap, rfl, h1, h2, h3⟩ := h
  refine ⟨a, cap, rfl, h1, h2, fun hx => ?_⟩
  obtain ⟨b, o, rfl, h4⟩ := h3 hx
  exact ⟨b, o, rfl, fun i hi => cell_later hb (h4 i hi)⟩
/-- May a number of a list be? -/
def unB (x : Int) : Bool := wiB x 0 1099511627776
theorem take_all {ks : List Int} {j : Nat} (hj : j < ks.length) (h : (ks.take j).all unB = true) (h' : unB (ks.getD j 0) = true) : (ks.take (j + 1)).all unB = true := by
  have e : ks.getD j 0 = ks[j] := by simp [List.getD, hj]
  rw [e] at h'
  rw [List.take_add_one, List.getElem?_eq_getElem hj, List.all_append, h]
  simp [h']
end Go.Proofs.Ytjaaabliefcgaaa
