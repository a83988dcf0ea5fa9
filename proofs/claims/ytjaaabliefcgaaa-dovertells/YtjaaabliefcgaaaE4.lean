/- A description's cells; walks of package spec: known, Stretch. -/
import Derived.Test.YtjaaabliefcgaaaE3
namespace Go.Proofs.Ytjaaabliefcgaaa
open Go.RowKit
/-- A write of all six. -/
def put6 (w : World) (b : Nat) (c t x m k e : Int) : World := (((((w.setCell ⟨b, 0, none⟩ (.int .i64 c)).setCell ⟨b, 1, none⟩ (.int .i64 t)).setCell ⟨b, 2, none⟩ (.int .i64 x)).setCell ⟨b, 3, none⟩ (.int .i64 m)).setCell ⟨b, 4, none⟩ (.int .i64 k)).setCell ⟨b, 5, none⟩ (.int .i64 e)
theorem below6 {B : Nat} {a w : World} {b : Nat} (h : Below B a w) (hB : B ≤ b) (c t x m k e : Int) : Below B a (put6 w b c t x m k e) :=
  (((((h.setCell (p := ⟨b, 0, none⟩) hB _).setCell (p := ⟨b, 1, none⟩) hB _).setCell (p := ⟨b, 2, none⟩) hB _).setCell (p := ⟨b, 3, none⟩) hB _).setCell (p := ⟨b, 4, none⟩) hB _).setCell (p := ⟨b, 5, none⟩) hB _
end Go.Proofs.Ytjaaabliefcgaaa
