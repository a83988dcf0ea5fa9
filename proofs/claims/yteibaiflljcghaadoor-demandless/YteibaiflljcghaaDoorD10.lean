import Derived.Test.YteibaiflljcghaaDoorY4
import Derived.Test.YteibaiflljcghaaDoorY2
/- The chapter's example of chapter 9. -/
namespace Go.Proofs.YteibaiflljcghaaDoor
open Go.RowKit Go.Shelf

def oneF : Fx := ⟨2, 10, 20, 1, 2, 3, 10⟩
theorem one9_a : ofV9 ⟨2, 10, 20, 1, 2, 3, 10⟩ 9 = 0 := by decide
theorem one9_b : ofV9 ⟨2, 10, 20, 1, 2, 3, 10⟩ 10 = 2 := by decide
theorem one9_c : ofV9 ⟨2, 10, 20, 1, 2, 3, 10⟩ 29 = 2 := by decide
theorem one9_d : ofV9 ⟨2, 10, 20, 1, 2, 3, 10⟩ 30 = 4 := by decide
theorem one9_may : may9 1 (fun _ => oneF) = true := by decide
theorem one9_hor : hor9 1 (fun _ => oneF) = 32 := by decide
/-- One task alone that may be passes. -/
theorem tst_one {f : Nat → Fx} (h : may9 1 f = true) : tst9 1 f = true :=
  tst_iff.2 ⟨h, fun n n0 _ => by
    have := (of_bd (f 0) n).2.2 n0
    show 0 + ofV9 (f 0) n ≤ n
    omega⟩
theorem one9_tst : tst9 1 (fun _ => oneF) = true := tst_one one9_may

set_option maxHeartbeats 4000000 in
set_option maxRecDepth 100000 in
theorem awake9_any (w : World) (hL : Lim w) : Calls Tryd.prog 10 #[] w fun e w' => e = .returned (.bool true) ∧ Below w.heap.size w w' := by
  have HL : Hid (Lim w) := hL
  clear hL
  go_enter Tryd.func10, Tryd.ntmps10
  go_wp2_with fail
  refine (spone_any _).mono ?_
  rintro e w1 ⟨rfl, hb1⟩
  unfold spV
  have hE : Below w.heap.size w (w1.alloc (.cells #[.int .i64 2, .int .i64 10, .int .i64 20, .int .i64 1, .int .i64 2, .int .i64 3, .int .i64 10] 26)) := hb1.alloc hb1.size _
  have hS0 := Sev.new w1 2 10 20 1 2 3 10
  have hT := Sev.new (w1.alloc (.cells #[.int .i64 2, .int .i64 10, .int .i64 20, .int .i64 1, .int .i64 2, .int .i64 3, .int .i64 10] 26)) 2 10 20 1 2 3 10
  have hb2 := hE.alloc hE.size (.cells #[.int .i64 2, .int .i64 10, .int .i64 20, .int .i64 1, .int .i64 2, .int .i64 3, .int .i64 10] 26)
  have hS2 := hS0.later ((Below.refl _ _).alloc (Nat.le_refl _) (.cells #[.int .i64 2, .int .i64 10, .int .i64 20, .int .i64 1, .int .i64 2, .int .i64 3, .int .i64 10] 26))
  have hF2 : Fxs _ _ 1 (fun _ => oneF) := Fxs.one hT
  simp only [World.size_alloc] at hF2
  clear hS0 hT hE hb1
  go_wp2_with fail
  refine (of9_any _ _ _ _ _ _ _ _ _).mono ?_
  rintro e w3 ⟨rfl, hb3⟩
  rw [one9_a]
  have hS3 := hS2.later hb3
  have hF3 := hF2.later hb3
  replace hb3 := hb2.trans (hb3.mono hb2.size)
  obtain ⟨a0, a1, a2, a3, a4, a5, a6⟩ := hS3.fx
  clear hS2 hF2 hb2
  go_wp2_with fail
  refine (of9_any _ _ _ _ _ _ _ _ _).mono ?_
  rintro e w4 ⟨rfl, hb4⟩
  rw [one9_b]
  have hS4 := hS3.later hb4
  have hF4 := hF3.later hb4
  replace hb4 := hb3.trans (hb4.mono hb3.size)
  obtain ⟨a0, a1, a2, a3, a4, a5, a6⟩ := hS4.fx
  clear hS3 hF3 hb3
  go_wp2_with fail
  refine (of9_any _ _ _ _ _ _ _ _ _).mono ?_
  rintro e w5 ⟨rfl, hb5⟩
  rw [one9_c]
  have hS5 := hS4.later hb5
  have hF5 := hF4.later hb5
  replace hb5 := hb4.trans (hb5.mono hb4.size)
  obtain ⟨a0, a1, a2, a3, a4, a5, a6⟩ := hS5.fx
  clear hS4 hF4 hb4
  go_wp2_with fail
  refine (of9_any _ _ _ _ _ _ _ _ _).mono ?_
  rintro e w6 ⟨rfl, hb6⟩
  rw [one9_d]
  have hS6 := hS5.later hb6
  have hF6 := hF5.later hb6
  replace hb6 := hb5.trans (hb6.mono hb5.size)
  obtain ⟨a0, a1, a2, a3, a4, a5, a6⟩ := hS6.fx
  clear hS5 hF5 hb5
  go_wp2_with fail
  refine (may9_any 1 _ _ _ hF6 (HL.out.later hb6)).mono ?_
  rintro e w7 ⟨rfl, hb7⟩
  rw [one9_may]
  have hS7 := hS6.later hb7
  have hF7 := hF6.later hb7
  replace hb7 := hb6.trans (hb7.mono hb6.size)
  obtain ⟨a0, a1, a2, a3, a4, a5, a6⟩ := hS7.fx
  clear hS6 hF6 hb6
  go_wp2_with fail
  refine (hor9_any 1 _ _ _ hF7 (HL.out.later hb7)).mono ?_
  rintro e w8 ⟨rfl, hb8⟩
  rw [one9_hor]
  have hS8 := hS7.later hb8
  have hF8 := hF7.later hb8
  replace hb8 := hb7.trans (hb8.mono hb7.size)
  obtain ⟨a0, a1, a2, a3, a4, a5, a6⟩ := hS8.fx
  clear hS7 hF7 hb7
  go_wp2_with fail
  refine (test9_any 1 _ _ _ hF8 (HL.out.later hb8)).mono ?_
  rintro e w9 ⟨rfl, hb9⟩
  rw [one9_tst]
  go_wp2_with fail
  go_ret
  exact ⟨rfl, hb8.trans (hb9.mono hb8.size)⟩
end Go.Proofs.YteibaiflljcghaaDoor
