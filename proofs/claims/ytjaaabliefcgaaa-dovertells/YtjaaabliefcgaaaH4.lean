/- The walk of the method that puts an item last. -/
import Derived.Test.YtjaaabliefcgaaaH3
import Derived.Deep.RegionHeld3
import Derived.Deep.AppendLies
import Derived.OwnWalk
import Derived.Deep.RegionLaw
namespace Go.Proofs.Ytjaaabliefcgaaa
open Go.RowKit

theorem Try.infoItem : (Try.prog.info? 50).map (fun i => (i.zero, i.size, i.bytes)) = some (some (.agg #[.int .i64 0, .int .i64 0]), 2, 16) := by kernel_rfl

theorem as_item (v : Value) (w : World) : (Instr.typeAssert (.iface 50 v) 20 50 false).run Try.prog w = .ok v w := by kernel_rfl

theorem Hp.row {B p cap : Nat} {w : World} {a : Option Addr} {xs : List (Int × Int)} (h : Hp B w p a cap xs) : Value.ownBlock (.slice a xs.length cap) ≠ some p := by
  cases a with
  | none => simp [Value.ownBlock]
  | some ad =>
    obtain ⟨_, ⟨e, _⟩ | ⟨g, cap, cur, e, hb, hh, _⟩⟩ := h.own
    · simp at e
    · simp at e
      have := (show Hp B w p (some ⟨g, 0, none⟩) _ xs from e.1 ▸ h).apart
      rw [e.1]; simpa [Value.ownBlock] using this
theorem Value.ownBlock_map (a : Option Addr) (n c : Nat) : Value.ownBlock (.slice a n c) = a.map (·.block) := by cases a <;> rfl
end Go.Proofs.Ytjaaabliefcgaaa
