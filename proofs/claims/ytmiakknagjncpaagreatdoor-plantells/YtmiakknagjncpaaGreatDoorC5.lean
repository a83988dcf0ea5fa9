/- Walks of package plan: one task as a spring. -/
import Derived.Test.YtmiakknagjncpaaGreatDoorC4
namespace Go.Proofs.YtmiakknagjncpaaGreatDoor
open Go.RowKit Go.Shelf

/-- What a drawn region keeps: the description's cells, and all that was there. -/
theorem six_step {w w1 w2 : World} {b : Nat} {c t x m k e : Int} (h : (w1.cell? ⟨b, 0, none⟩ = some (.int .i64 c) ∧ w1.cell? ⟨b, 1, none⟩ = some (.int .i64 t) ∧ w1.cell? ⟨b, 2, none⟩ = some (.int .i64 x) ∧ w1.cell? ⟨b, 3, none⟩ = some (.int .i64 m) ∧ w1.cell? ⟨b, 4, none⟩ = some (.int .i64 k) ∧ w1.cell? ⟨b, 5, none⟩ = some (.int .i64 e)) ∧ Below w.heap.size w w1) (hb : Below w1.heap.size w1 w2) :
    (w2.cell? ⟨b, 0, none⟩ = some (.int .i64 c) ∧ w2.cell? ⟨b, 1, none⟩ = some (.int .i64 t) ∧ w2.cell? ⟨b, 2, none⟩ = some (.int .i64 x) ∧ w2.cell? ⟨b, 3, none⟩ = some (.int .i64 m) ∧ w2.cell? ⟨b, 4, none⟩ = some (.int .i64 k) ∧ w2.cell? ⟨b, 5, none⟩ = some (.int .i64 e)) ∧ Below w.heap.size w w2 := by
  obtain ⟨⟨h0, h1, h2, h3, h4, h5⟩, hw⟩ := h
  exact ⟨⟨cell_later hb h0, cell_later hb h1, cell_later hb h2, cell_later hb h3, cell_later hb h4, cell_later hb h5⟩, hw.trans (hb.mono hw.size)⟩
theorem six_store {w w1 : World} {b d i : Nat} {c t x m k e : Int} (h : (w1.cell? ⟨b, 0, none⟩ = some (.int .i64 c) ∧ w1.cell? ⟨b, 1, none⟩ = some (.int .i64 t) ∧ w1.cell? ⟨b, 2, none⟩ = some (.int .i64 x) ∧ w1.cell? ⟨b, 3, none⟩ = some (.int .i64 m) ∧ w1.cell? ⟨b, 4, none⟩ = some (.int .i64 k) ∧ w1.cell? ⟨b, 5, none⟩ = some (.int .i64 e)) ∧ Below w.heap.size w w1) (hd : d ≠ b) (hw : w.heap.size ≤ d) (v : Value) :
    ((w1.setCell ⟨d, i, none⟩ v).cell? ⟨b, 0, none⟩ = some (.int .i64 c) ∧ (w1.setCell ⟨d, i, none⟩ v).cell? ⟨b, 1, none⟩ = some (.int .i64 t) ∧ (w1.setCell ⟨d, i, none⟩ v).cell? ⟨b, 2, none⟩ = some (.int .i64 x) ∧ (w1.setCell ⟨d, i, none⟩ v).cell? ⟨b, 3, none⟩ = some (.int .i64 m) ∧ (w1.setCell ⟨d, i, none⟩ v).cell? ⟨b, 4, none⟩ = some (.int .i64 k) ∧ (w1.setCell ⟨d, i, none⟩ v).cell? ⟨b, 5, none⟩ = some (.int .i64 e)) ∧ Below w.heap.size w (w1.setCell ⟨d, i, none⟩ v) := by
  obtain ⟨⟨h0, h1, h2, h3, h4, h5⟩, hb⟩ := h
  have far : ∀ j, (w1.setCell ⟨d, i, none⟩ v).cell? ⟨b, j, none⟩ = w1.cell? ⟨b, j, none⟩ := fun j => World.cell?_setCell_far _ _ _ _ hd
  exact ⟨⟨(far 0).trans h0, (far 1).trans h1, (far 2).trans h2, (far 3).trans h3, (far 4).trans h4, (far 5).trans h5⟩, hb.setCell (p := ⟨d, i, none⟩) hw _⟩

set_option maxHeartbeats 2000000 in
set_option maxRecDepth 100000 in
theorem sprg_any (i c t x m k e : Int) (w : World) :
    Calls Tryz.prog 17 #[.int .i64 i, .agg #[.int .i64 c, .int .i64 t, .int .i64 x, .int .i64 m, .int .i64 k, .int .i64 e]] w fun r w' => r = .returned (.agg #[.int .i64 (atV ⟨c, t, x, m, k, e⟩ t), .int .i64 (leastV ⟨c, t, x, m, k, e⟩), .int .i64 e]) ∧ Below w.heap.size w w' := by
  have hS : Six ((w.alloc (.cells #[.int .i64 c, .int .i64 t, .int .i64 x, .int .i64 m, .int .i64 k, .int .i64 e] 38)).alloc (.cells #[.int .i64 0, .int .i64 0, .int .i64 0] 47)) w.heap.size (Sp.at ⟨c, t, x, m, k, e⟩) := (Six.new w ⟨c, t, x, m, k, e⟩).later ((Below.refl _ _).alloc (Nat.le_refl _) _)
  have hZ : Tri ((w.alloc (.cells #[.int .i64 c, .int .i64 t, .int .i64 x, .int .i64 m, .int .i64 k, .int .i64 e] 38)).alloc (.cells #[.int .i64 0, .int .i64 0, .int .i64 0] 47)) (w.heap.size + 1) 0 0 0 := by have := Tri.new (w.alloc (.cells #[.int .i64 c, .int .i64 t, .int .i64 x, .int .i64 m, .int .i64 k, .int .i64 e] 38)) 0 0 0; simp only [World.size_alloc] at this; exact this
  have hE : Hid (Below w.heap.size w ((w.alloc (.cells #[.int .i64 c, .int .i64 t, .int .i64 x, .int .i64 m, .int .i64 k, .int .i64 e] 38)).alloc (.cells #[.int .i64 0, .int .i64 0, .int .i64 0] 47))) := ((Below.refl _ _).alloc (Nat.le_refl _) _).alloc (by simp) _
  go_enter Tryz.func17, Tryz.ntmps17
  go_wp2_with fail
  generalize ((w.alloc (.cells #[.int .i64 c, .int .i64 t, .int .i64 x, .int .i64 m, .int .i64 k, .int .i64 e] 38)).alloc (.cells #[.int .i64 0, .int .i64 0, .int .i64 0] 47)) = W at *
  have HZ : Hid (Tri W.drew (w.heap.size + 1) 0 0 0) := hZ.later (Below.refl _ _).drew
  have HS0 : Hid ((W.drew.cell? ⟨w.heap.size, 0, none⟩ = some (.int .i64 c) ∧ W.drew.cell? ⟨w.heap.size, 1, none⟩ = some (.int .i64 t) ∧ W.drew.cell? ⟨w.heap.size, 2, none⟩ = some (.int .i64 x) ∧ W.drew.cell? ⟨w.heap.size, 3, none⟩ = some (.int .i64 m) ∧ W.drew.cell? ⟨w.heap.size, 4, none⟩ = some (.int .i64 k) ∧ W.drew.cell? ⟨w.heap.size, 5, none⟩ = some (.int .i64 e)) ∧ Below w.heap.size w W.drew) := by
    obtain ⟨a0, a1, a2, a3, a4, a5, _⟩ := (hS.later (Below.refl _ _).drew).sp
    exact ⟨⟨a0, a1, a2, a3, a4, a5⟩, hE.out.trans ((Below.refl _ _).drew.mono hE.out.size)⟩
  have sd : w.heap.size + 1 ≠ w.heap.size := by omega
  clear hS hZ
  go_region_held3 (fun w' => (w'.cell? ⟨w.heap.size, 0, none⟩ = some (.int .i64 c) ∧ w'.cell? ⟨w.heap.size, 1, none⟩ = some (.int .i64 t) ∧ w'.cell? ⟨w.heap.size, 2, none⟩ = some (.int .i64 x) ∧ w'.cell? ⟨w.heap.size, 3, none⟩ = some (.int .i64 m) ∧ w'.cell? ⟨w.heap.size, 4, none⟩ = some (.int .i64 k) ∧ w'.cell? ⟨w.heap.size, 5, none⟩ = some (.int .i64 e)) ∧ Below w.heap.size w w')
    (first | exact HS0.out | exact six_step (by assumption) (by assumption) | exact six_store (six_store (six_store (by assumption) sd (by omega) _) sd (by omega) _) sd (by omega) _)
    (first
    | (go_at_call 18; refine (top_any c t x m k e _).mono ?_; rintro r w3 ⟨rfl, hb3⟩; have HZ3 : Hid (Tri w3 (w.heap.size + 1) 0 0 0) := HZ.out.later hb3)
    | (go_at_call 19; refine (least_any c t x m k e _).mono ?_; rintro r w4 ⟨rfl, hb4⟩; have HZ4 : Hid (Tri w4 (w.heap.size + 1) 0 0 0) := HZ3.out.later hb4; obtain ⟨⟨z0, z1, z2⟩, y0, y1, y2⟩ := HZ4.out.tri))
  all_goals
    go_wp2_with fail
    refine bodyPost_ret (v := .agg #[.int .i64 (atV ⟨c, t, x, m, k, e⟩ t), .int .i64 (leastV ⟨c, t, x, m, k, e⟩), .int .i64 e]) ?_ rfl ⟨rfl, sBel (by assumption)⟩
    simp [results, Tryz.results17, go_sem, z0, z1, z2]
end Go.Proofs.YtmiakknagjncpaaGreatDoor
