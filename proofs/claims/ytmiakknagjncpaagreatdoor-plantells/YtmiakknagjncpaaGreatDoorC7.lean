/- Walks of package plan: one task at the period of its units. -/
import Derived.Test.YtmiakknagjncpaaGreatDoorC6
namespace Go.Proofs.YtmiakknagjncpaaGreatDoor
open Go.RowKit Go.Shelf

theorem Sev.all {w : World} {b : Nat} {c t x m k e p : Int} (h : Sev w b ⟨c, t, x, m, k, e, p⟩) :
    (w.frozen? ⟨b, 0, none⟩ = false ∧ w.frozen? ⟨b, 1, none⟩ = false ∧ w.frozen? ⟨b, 2, none⟩ = false ∧ w.frozen? ⟨b, 3, none⟩ = false ∧ w.frozen? ⟨b, 4, none⟩ = false ∧ w.frozen? ⟨b, 5, none⟩ = false ∧ w.frozen? ⟨b, 6, none⟩ = false) :=
  ⟨(h 0 (by omega)).2, (h 1 (by omega)).2, (h 2 (by omega)).2, (h 3 (by omega)).2, (h 4 (by omega)).2, (h 5 (by omega)).2, (h 6 (by omega)).2⟩
theorem below7 {B : Nat} {a w : World} {b o : Nat} (h : Below B a w) (hB : B ≤ b) (v0 v1 v2 v3 v4 v5 v6 : Value) : Below B a (((((((w.setCell ⟨b, o, none⟩ v0).setCell ⟨b, o + 1, none⟩ v1).setCell ⟨b, o + 2, none⟩ v2).setCell ⟨b, o + 3, none⟩ v3).setCell ⟨b, o + 4, none⟩ v4).setCell ⟨b, o + 5, none⟩ v5).setCell ⟨b, o + 6, none⟩ v6) :=
  ((((((h.setCell (p := ⟨b, o, none⟩) hB _).setCell (p := ⟨b, o + 1, none⟩) hB _).setCell (p := ⟨b, o + 2, none⟩) hB _).setCell (p := ⟨b, o + 3, none⟩) hB _).setCell (p := ⟨b, o + 4, none⟩) hB _).setCell (p := ⟨b, o + 5, none⟩) hB _).setCell (p := ⟨b, o + 6, none⟩) hB _
theorem below70 {B : Nat} {a w : World} {b : Nat} (h : Below B a w) (hB : B ≤ b) (v0 v1 v2 v3 v4 v5 v6 : Value) : Below B a (((((((w.setCell ⟨b, 0, none⟩ v0).setCell ⟨b, 1, none⟩ v1).setCell ⟨b, 2, none⟩ v2).setCell ⟨b, 3, none⟩ v3).setCell ⟨b, 4, none⟩ v4).setCell ⟨b, 5, none⟩ v5).setCell ⟨b, 6, none⟩ v6) := below7 (o := 0) h hB v0 v1 v2 v3 v4 v5 v6

set_option maxHeartbeats 2000000 in
set_option maxRecDepth 100000 in
theorem tgt1_any (i l cap bx ox p : Nat) (y c t x m k e : Int) (w : World) (hp : w.cell? ⟨p, 0, none⟩ = some (.slice (some ⟨bx, ox, none⟩) l cap)) (hy : w.cell? ⟨bx, ox + i, none⟩ = some (.int .i64 y)) (hi : i < l) :
    Calls Tryz.prog 26 #[.int .i64 i, .agg #[.int .i64 c, .int .i64 t, .int .i64 x, .int .i64 m, .int .i64 k, .int .i64 e], .pointer (some ⟨p, 0, none⟩)] w fun r w' => r = .returned (.agg #[.int .i64 c, .int .i64 t, .int .i64 x, .int .i64 m, .int .i64 k, .int .i64 e, .int .i64 (ofP ⟨c, t, x, m, k, e⟩ y)]) ∧ Below w.heap.size w w' := by
  have hS : Six ((w.alloc (.cells #[.int .i64 c, .int .i64 t, .int .i64 x, .int .i64 m, .int .i64 k, .int .i64 e] 38)).alloc (.cells #[.int .i64 0, .int .i64 0, .int .i64 0, .int .i64 0, .int .i64 0, .int .i64 0, .int .i64 0] 42)) w.heap.size (Sp.at ⟨c, t, x, m, k, e⟩) := (Six.new w ⟨c, t, x, m, k, e⟩).later ((Below.refl _ _).alloc (Nat.le_refl _) _)
  have hZ : Sev ((w.alloc (.cells #[.int .i64 c, .int .i64 t, .int .i64 x, .int .i64 m, .int .i64 k, .int .i64 e] 38)).alloc (.cells #[.int .i64 0, .int .i64 0, .int .i64 0, .int .i64 0, .int .i64 0, .int .i64 0, .int .i64 0] 42)) (w.heap.size + 1) ⟨0, 0, 0, 0, 0, 0, 0⟩ := by have := Sev.new (w.alloc (.cells #[.int .i64 c, .int .i64 t, .int .i64 x, .int .i64 m, .int .i64 k, .int .i64 e] 38)) 0 0 0 0 0 0 0; simp only [World.size_alloc] at this; exact this
  have hE : Hid (Below w.heap.size w ((w.alloc (.cells #[.int .i64 c, .int .i64 t, .int .i64 x, .int .i64 m, .int .i64 k, .int .i64 e] 38)).alloc (.cells #[.int .i64 0, .int .i64 0, .int .i64 0, .int .i64 0, .int .i64 0, .int .i64 0, .int .i64 0] 42))) := ((Below.refl _ _).alloc (Nat.le_refl _) _).alloc (by simp) _
  have i0 : (0 : Int) ≤ (i : Int) := by omega
  have i1 : (i : Int) < (l : Int) := by omega
  go_enter Tryz.func26, Tryz.ntmps26
  go_wp2_with fail
  generalize ((w.alloc (.cells #[.int .i64 c, .int .i64 t, .int .i64 x, .int .i64 m, .int .i64 k, .int .i64 e] 38)).alloc (.cells #[.int .i64 0, .int .i64 0, .int .i64 0, .int .i64 0, .int .i64 0, .int .i64 0, .int .i64 0] 42)) = W at *
  have MK : Hid (∀ w' : World, Below W.heap.size W w' → (w'.cell? ⟨w.heap.size, 0, none⟩ = some (.int .i64 c) ∧ w'.cell? ⟨w.heap.size, 1, none⟩ = some (.int .i64 t) ∧ w'.cell? ⟨w.heap.size, 2, none⟩ = some (.int .i64 x) ∧ w'.cell? ⟨w.heap.size, 3, none⟩ = some (.int .i64 m) ∧ w'.cell? ⟨w.heap.size, 4, none⟩ = some (.int .i64 k) ∧ w'.cell? ⟨w.heap.size, 5, none⟩ = some (.int .i64 e)) ∧ (w'.cell? ⟨p, 0, none⟩ = some (.slice (some ⟨bx, ox, none⟩) l cap) ∧ w'.cell? ⟨bx, ox + i, none⟩ = some (.int .i64 y)) ∧ Below w.heap.size w w') := fun w' hb => by
    obtain ⟨a0, a1, a2, a3, a4, a5, _⟩ := (hS.later hb).sp
    have hb' := hE.out.trans (hb.mono hE.out.size)
    exact ⟨⟨a0, a1, a2, a3, a4, a5⟩, ⟨cell_later hb' hp, cell_later hb' hy⟩, hb'⟩
  have HZ : Hid (Sev W.drew (w.heap.size + 1) ⟨0, 0, 0, 0, 0, 0, 0⟩) := hZ.later (Below.refl _ _).drew
  have HD : Hid (Below W.heap.size W W.drew) := (Below.refl _ _).drew
  clear hS hZ hp hy
  go_region_held3 (fun w' => (w'.cell? ⟨w.heap.size, 0, none⟩ = some (.int .i64 c) ∧ w'.cell? ⟨w.heap.size, 1, none⟩ = some (.int .i64 t) ∧ w'.cell? ⟨w.heap.size, 2, none⟩ = some (.int .i64 x) ∧ w'.cell? ⟨w.heap.size, 3, none⟩ = some (.int .i64 m) ∧ w'.cell? ⟨w.heap.size, 4, none⟩ = some (.int .i64 k) ∧ w'.cell? ⟨w.heap.size, 5, none⟩ = some (.int .i64 e)) ∧ (w'.cell? ⟨p, 0, none⟩ = some (.slice (some ⟨bx, ox, none⟩) l cap) ∧ w'.cell? ⟨bx, ox + i, none⟩ = some (.int .i64 y)) ∧ Below w.heap.size w w')
    (first | exact MK.out _ HD.out | exact MK.out _ (HD.out.trans ((by assumption : Below W.drew.heap.size W.drew _).mono HD.out.size)))
    (first
    | (go_at_call 27; refine (perOf_any c t x m k e y _).mono ?_; rintro r w3 ⟨rfl, hb3⟩; have HZ3 : Hid (Sev w3 (w.heap.size + 1) ⟨0, 0, 0, 0, 0, 0, 0⟩) := HZ.out.later hb3))
  all_goals
    obtain ⟨z0, z1, z2, z3, z4, z5, z6⟩ := HZ3.out.fx
    obtain ⟨y0, y1, y2, y3, y4, y5, y6⟩ := HZ3.out.all
    have HB3 : Hid (Below w.heap.size w w3) := hE.out.trans ((HD.out.trans (hb3.mono HD.out.size)).mono hE.out.size)
    go_wp2_with fail
    refine bodyPost_ret (v := .agg #[.int .i64 c, .int .i64 t, .int .i64 x, .int .i64 m, .int .i64 k, .int .i64 e, .int .i64 (ofP ⟨c, t, x, m, k, e⟩ y)]) ?_ rfl ⟨rfl, below70 HB3.out (by omega) _ _ _ _ _ _ _⟩
    simp [results, Tryz.results26, go_sem, z0, z1, z2, z3, z4, z5, z6]
end Go.Proofs.YtmiakknagjncpaaGreatDoor
