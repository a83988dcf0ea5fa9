import Derived.Test.YtmiakknagjncpaaGreatDoorRows
import Derived.Test.YtmiakknagjncpaaGreatDoorY2
import Derived.ProofKit
import Derived.LaidMore
import Derived.OpenShut
import Derived.Stop.Joined
/- What the listed table gives the walks; the door's own heap meets the condition. -/
namespace Go.Proofs.YtmiakknagjncpaaGreatDoor
open Go.ChangeShapes Go.WideShapes Go.ChangeAt Go.RowKit
theorem tLim : (Tryz.prog.globals[0]?).map (·.type) = some 100 := by kernel_rfl

/-- The door's own heap meets the condition. -/
theorem door_met (os : Os) (args : Array Value) : laidMetH Tryz.prog Rows.planTellsRow.laid ((World.doorLaid Tryz.prog 400 os).forCall (fun _ _ => 0) ⟨#[], args, []⟩).memory :=
  laidMetH_of_parts3 (fuel := 8) (laidMet_of_run' 8 (by kernel_rfl) (by kernel_rfl)) (by kernel_rfl) (by kernel_rfl)

set_option maxRecDepth 100000 in
/-- What the condition gives the walks: the table's three cells. -/
theorem lim_of_laid {W : World} (h : laidMetH Tryz.prog Rows.planTellsRow.laid W) : Lim W := by
  rw [MakeChecks.laidMetH_plain _ _ _ (by kernel_rfl)] at h
  obtain ⟨ps, ⟨g0, t0, cs0, f0, p0, q0, hg0, ht0, hv0, hd0, _, _⟩, _, _⟩ := h
  obtain rfl := Option.some.inj ((show Tryz.prog.globalNamed _ = some 0 by kernel_rfl).symm.trans hg0)
  obtain rfl := Option.some.inj (tLim.symm.trans ht0)
  obtain ⟨xs, m1, rfl, hx1, hlen, hn3, hel⟩ := DataW.trod_array Tryz.underlying100 hd0
  have c3 : Tryz.prog.cellsOf 3 = 1 := by kernel_rfl
  have h0 := hel 0 (by decide)
  have h1 := hel 1 (by decide)
  have h2 := hel 2 (by decide)
  simp only [Prod.mk.injEq, DataW.agg.injEq, Rows.laid_fusee_units_limits] at hx1
  match xs, hn3, hx1, h0, h1, h2 with
  | [x0, x1, x2], _, hx1, h0, h1, h2 =>
    simp only [List.map_cons, List.map_nil, List.cons.injEq] at hx1
    obtain ⟨k0, e0, z0, _⟩ := DataW.trod_int Tryz.underlying3 (show DataW.trod _ Tryz.prog W 0 _ false m1 3 _ = some x0 from h0)
    obtain ⟨k1, e1, z1, _⟩ := DataW.trod_int Tryz.underlying3 (show DataW.trod _ Tryz.prog W 0 _ false m1 3 _ = some x1 from h1)
    obtain ⟨k2, e2, z2, _⟩ := DataW.trod_int Tryz.underlying3 (show DataW.trod _ Tryz.prog W 0 _ false m1 3 _ = some x2 from h2)
    have hk0 : k0 = 1099511627776 := by rw [z0] at hx1; simpa using hx1.1.1.symm
    have hk1 : k1 = 1000 := by rw [z1] at hx1; simpa using hx1.1.2.1.symm
    have hk2 : k2 = 983040 := by rw [z2] at hx1; simpa using hx1.1.2.2.1.symm
    subst hk0 hk1 hk2
    have v0 := World.var?_cell hg0 hv0 0
    have v1 := World.var?_cell hg0 hv0 1
    have v2 := World.var?_cell hg0 hv0 2
    obtain ⟨l1⟩ := cs0
    rw [c3] at e0 e1 e2
    match l1, e0, e1, e2, v0, v1, v2 with
    | a :: b :: c :: r, e0, e1, e2, v0, v1, v2 =>
      simp at e0 e1 e2
      subst e0 e1 e2
      exact ⟨by simpa using v0, by simpa using v1, by simpa using v2⟩
end Go.Proofs.YtmiakknagjncpaaGreatDoor
