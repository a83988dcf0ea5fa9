/- Lists of integers that are read, the table of limits, and walks of Sum and Fits of package units, and of the document's own. -/
import Derived.Test.YtociniaaeflokaaV3
import Derived.Test.YtociniaaeflokaaW1
import Derived.Test.YtociniaaeflokaaR8
import Derived.Test.YtociniaaeflokaaM1
import Derived.Deep.RegionWith
import Derived.Deep.RegionHeld3
import Derived.Test.YtociniaaeflokaaA1
import Derived.Test.YtociniaaeflokaaE1
namespace Go.Proofs.Ytociniaaeflokaa
open Go.RowKit

theorem Nums.later {w w' : World} {v : Value} {xs : List Int} (h : Nums w v xs) (hb : Below w.heap.size w w') : Nums w' v xs := by
  obtain ⟨a, cap, rfl, h1, h2, h3⟩ := h
  refine ⟨a, cap, rfl, h1, h2, fun hx => ?_⟩
  obtain ⟨b, o, rfl, h4⟩ := h3 hx
  exact ⟨b, o, rfl, fun i hi => cell_later hb (h4 i hi)⟩
theorem within6_any (n a b : Int) (w : World) :
    Calls Try.prog 29 #[.int .i64 n, .int .i64 a, .int .i64 b] w fun e w' => e = .returned (.bool (wiB n a b)) ∧ w' = w := by
  by_cases c0 : a ≤ n
  · have H : Hid (wiB n a b = decide (n ≤ b)) := by show _ = _; unfold wiB; simp [c0]
    go_enter Try.func29, Try.ntmps29
    go_wp2
    go_ret
    exact ⟨ret_b H.out.symm, rfl⟩
  · have H : Hid (wiB n a b = false) := by show _ = _; unfold wiB; simp [c0]
    go_enter Try.func29, Try.ntmps29
    go_wp2
    go_ret
    exact ⟨ret_b H.out.symm, rfl⟩
end Go.Proofs.Ytociniaaeflokaa
