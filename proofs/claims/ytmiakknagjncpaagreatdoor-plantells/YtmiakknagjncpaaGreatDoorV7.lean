import Derived.Test.YtmiakknagjncpaaGreatDoorY2
import Derived.Test.YtmiakknagjncpaaGreatDoorY1
import Derived.ProofKit
import Derived.OpenShut
import Derived.Carry
import Derived.Deep.SlicePairs
/- A list of integers that is an argument: what it holds, and that without memory it has no room. -/
namespace Go.Proofs.YtmiakknagjncpaaGreatDoor
open Go.ChangeShapes Go.WideShapes Go.ChangeAt Go.RowKit
theorem see_nums2 {H : Type} {enc : TypeId × Value → H} {P : Program} {w : World} {base b0 : Nat} {held : Bool} {r : Reach} {t e : TypeId} {v : Value} {d : DataW H} {p : List MemPlace}
    (ht : P.underlying t = some (.slice e)) (he : P.underlying e = some (.int .i64)) (hc : P.cellsOf e = 1) (hv : Value.okWide P w r b0 t v) (h : DataW.Trod enc P w base (fun _ => true) held t v d p) : ∃ ks, Nums w v ks ∧ NilCap v := by
  obtain ⟨ks, hk⟩ := see_nums ht he hc hv h
  refine ⟨ks, hk, ?_⟩
  obtain ⟨a, len, cap, rfl⟩ := okWide_slice ht hv
  obtain ⟨fuel, hf⟩ := h
  rcases open_ints ht he hc hf with ⟨hcs, _⟩ | ⟨x, l, c, zs, hcs, _⟩
  · simp [Value.cells] at hcs
    obtain ⟨rfl, rfl, rfl⟩ := hcs
    intro c hc; simpa using hc.symm
  · simp [Value.cells] at hcs
    obtain ⟨rfl, rfl, rfl⟩ := hcs
    intro c hc; simp at hc
end Go.Proofs.YtmiakknagjncpaaGreatDoor
