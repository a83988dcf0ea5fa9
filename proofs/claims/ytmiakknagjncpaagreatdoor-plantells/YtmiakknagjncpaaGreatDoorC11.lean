/- The chapter's example of chapter 10. -/
import Derived.Test.YtmiakknagjncpaaGreatDoorC10
namespace Go.Proofs.YtmiakknagjncpaaGreatDoor
open Go.RowKit Go.Shelf

theorem sps_two (w : World) (t : TypeId) : Sps (w.alloc (.cells #[.int .i64 4, .int .i64 5, .int .i64 20, .int .i64 1, .int .i64 1, .int .i64 1, .int .i64 4, .int .i64 8, .int .i64 20, .int .i64 1, .int .i64 1, .int .i64 1] t)) (.slice (some ⟨w.heap.size, 0, none⟩) 2 2) 2 twoS :=
  ⟨_, 2, rfl, by omega, by decide, fun h => (by cases h), fun _ => ⟨w.heap.size, 0, rfl, fun i hi j hj => by
    match i, hi with
    | 0, _ => rcases (show j = 0 ∨ j = 1 ∨ j = 2 ∨ j = 3 ∨ j = 4 ∨ j = 5 by omega) with rfl | rfl | rfl | rfl | rfl | rfl <;> simp [twoS, Sp.at]
    | 1, _ => rcases (show j = 0 ∨ j = 1 ∨ j = 2 ∨ j = 3 ∨ j = 4 ∨ j = 5 by omega) with rfl | rfl | rfl | rfl | rfl | rfl <;> simp [twoS, Sp.at]⟩⟩
theorem two_p0 : (tgF twoS 380109 2 0).at 6 = 7 := by decide
theorem two_p1 : (tgF twoS 380109 2 1).at 6 = 13 := by decide
theorem two_may : may9 2 (tgF twoS 380109 2) = true := by decide
theorem two_tst : tst9 2 (tgF twoS 380109 2) = true := by kernel_rfl
theorem two_err : errV 2 twoS 380109 2 true = 0 := err_ok (by omega) (by decide) two_tst
theorem two_bnd : bndV 2 (tgF twoS 380109 2) 3 = 305 := by rw [bnd_yes two_may (by omega) (by omega)]; decide

theorem two_any (w : World) :
    Calls Tryz.prog 13 #[] w fun r w' => r = .returned (.tuple #[.agg #[.int .i64 4, .int .i64 5, .int .i64 20, .int .i64 1, .int .i64 1, .int .i64 1], .agg #[.int .i64 4, .int .i64 8, .int .i64 20, .int .i64 1, .int .i64 1, .int .i64 1]]) ∧ Below w.heap.size w w' := by
  go_enter Tryz.func13, Tryz.ntmps13
  go_wp2_with fail
  refine bodyPost_ret (v := .tuple #[.agg #[.int .i64 4, .int .i64 5, .int .i64 20, .int .i64 1, .int .i64 1, .int .i64 1], .agg #[.int .i64 4, .int .i64 8, .int .i64 20, .int .i64 1, .int .i64 1, .int .i64 1]]) ?_ rfl ⟨rfl, ?_⟩
  · simp [results, Tryz.results13, go_sem]
  · exact ((Below.refl _ _).alloc (by simp) _).alloc (by simp) _

set_option maxHeartbeats 2000000 in
set_option maxRecDepth 100000 in
theorem awake10_any (w : World) (hL : Lim w) : Calls Tryz.prog 4 #[] w fun e w' => e = .returned (.bool true) ∧ Below w.heap.size w w' := by
  have HL : Hid (Lim w) := hL
  clear hL
  go_enter Tryz.func4, Tryz.ntmps4
  go_wp2_with fail
  refine (two_any _).mono ?_
  rintro e w1 ⟨rfl, hb1⟩
  have hE : Below w.heap.size w (((w1.alloc (.cells #[.int .i64 4, .int .i64 5, .int .i64 20, .int .i64 1, .int .i64 1, .int .i64 1] 38)).alloc (.cells #[.int .i64 4, .int .i64 8, .int .i64 20, .int .i64 1, .int .i64 1, .int .i64 1] 38)).alloc (.cells #[.int .i64 4, .int .i64 5, .int .i64 20, .int .i64 1, .int .i64 1, .int .i64 1, .int .i64 4, .int .i64 8, .int .i64 20, .int .i64 1, .int .i64 1, .int .i64 1] 38)) := ((hb1.alloc hb1.size _).alloc (by have := hb1.size; simp; omega) _).alloc (by have := hb1.size; simp; omega) _
  have hS := sps_two ((w1.alloc (.cells #[.int .i64 4, .int .i64 5, .int .i64 20, .int .i64 1, .int .i64 1, .int .i64 1] 38)).alloc (.cells #[.int .i64 4, .int .i64 8, .int .i64 20, .int .i64 1, .int .i64 1, .int .i64 1] 38)) 38
  simp only [World.size_alloc] at hS
  go_wp2_with fail
  refine (target_any 2 twoS 380109 2 true _ _ hS two_frT (HL.out.later hE)).mono ?_
  rintro e w2 ⟨x, rfl, hx, hb2⟩
  replace hb2 := hE.trans (hb2.mono hE.size)
  rw [two_err]
  rw [tg_ok two_err] at hx
  have HX : Hid (Fxs w2 x 2 (tgF twoS 380109 2)) := hx
  obtain ⟨ax, cx, rfl, g1, g2, g0, g3⟩ := hx
  obtain ⟨bk, o, rfl, g4⟩ := g3 (by omega)
  have c0 := g4 0 (by omega) 6 (by omega)
  have c1 := g4 1 (by omega) 6 (by omega)
  rw [two_p0] at c0
  rw [two_p1] at c1
  simp only [Nat.zero_mul, Nat.one_mul, Nat.add_zero] at c0 c1
  clear hS hE g3 g4 g0
  go_wp2_with fail
  refine (bound_any 2 _ 3 _ _ HX.out (HL.out.later hb2)).mono ?_
  rintro e w3 ⟨rfl, hb3⟩
  rw [two_bnd]
  go_wp2
  go_ret
  exact ⟨rfl, hb2.trans (hb3.mono hb2.size)⟩
end Go.Proofs.YtmiakknagjncpaaGreatDoor
