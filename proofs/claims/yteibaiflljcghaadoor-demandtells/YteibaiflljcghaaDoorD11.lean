import Derived.Test.YteibaiflljcghaaDoorD10
import Derived.Test.YteibaiflljcghaaDoorY1
/- What the statement DemandTells comes to. -/
namespace Go.Proofs.YteibaiflljcghaaDoor
open Go.RowKit Go.Shelf

set_option maxHeartbeats 8000000 in
set_option maxRecDepth 100000 in
theorem law_dtells (l : Nat) (f : Nat → Fx) (c t x m k e p n : Int) (v : Value) (w : World) (h : Fxs w v l f) (hL : Lim w) :
    Calls Tryd.prog 3 #[v, .agg #[.int .i64 c, .int .i64 t, .int .i64 x, .int .i64 m, .int .i64 k, .int .i64 e, .int .i64 p], .int .i64 n] w fun r w' => r = .returned (.bool true) ∧ Below w.heap.size w w' := by
  have hS := Sev.new w c t x m k e p
  have hE : Hid (Below w.heap.size w (w.alloc (.cells #[.int .i64 c, .int .i64 t, .int .i64 x, .int .i64 m, .int .i64 k, .int .i64 e, .int .i64 p] 26))) := (Below.refl _ _).alloc (Nat.le_refl _) _
  have HX0 : Hid (Fxs w v l f ∧ Lim w) := ⟨h, hL⟩
  obtain ⟨a, cap, rfl, h1, h2, _, _⟩ := h
  clear hL
  go_enter Tryd.func3, Tryd.ntmps3
  go_wp2_with fail
  refine (awake9_any _ (HX0.out.2.later hE.out)).mono ?_
  rintro r w3 ⟨rfl, hb3⟩
  have hS3 := hS.later hb3
  replace hb3 : Below w.heap.size w w3 := hE.out.trans (hb3.mono hE.out.size)
  have HX : Hid (Fxs w3 (.slice a l cap) l f ∧ Lim w3) := ⟨HX0.out.1.later hb3, HX0.out.2.later hb3⟩
  clear hS HX0
  by_cases hl : (l : Int) > 1100
  · go_wp2
    go_ret
    exact ⟨rfl, hb3⟩
  · have HLn : Hid (l ≤ 1100) := by show _ ≤ _; omega
    obtain ⟨q1, g1⟩ : ∃ q, may9 l f = q := ⟨_, rfl⟩
    obtain ⟨q2, g2⟩ : ∃ q, ofV9 ⟨c, t, x, m, k, e, p⟩ n = q := ⟨_, rfl⟩
    obtain ⟨q3, g3⟩ : ∃ q, allV9 l f n = q := ⟨_, rfl⟩
    obtain ⟨q4, g4⟩ : ∃ q, hor9 l f = q := ⟨_, rfl⟩
    obtain ⟨q5, g5⟩ : ∃ q, first9 l f = q := ⟨_, rfl⟩
    obtain ⟨q6, g6⟩ : ∃ q, tst9 l f = q := ⟨_, rfl⟩
    have HV : Hid (may9 l f = q1 ∧ ofV9 ⟨c, t, x, m, k, e, p⟩ n = q2 ∧ allV9 l f n = q3 ∧ hor9 l f = q4 ∧ first9 l f = q5 ∧ tst9 l f = q6) := ⟨g1, g2, g3, g4, g5, g6⟩
    clear g1 g2 g3 g4 g5 g6
    have MK : Hid (∀ w' : World, Below w3.heap.size w3 w' → (w'.cell? ⟨w.heap.size, 0, none⟩ = some (.int .i64 c) ∧ w'.cell? ⟨w.heap.size, 1, none⟩ = some (.int .i64 t) ∧ w'.cell? ⟨w.heap.size, 2, none⟩ = some (.int .i64 x) ∧ w'.cell? ⟨w.heap.size, 3, none⟩ = some (.int .i64 m) ∧ w'.cell? ⟨w.heap.size, 4, none⟩ = some (.int .i64 k) ∧ w'.cell? ⟨w.heap.size, 5, none⟩ = some (.int .i64 e) ∧ w'.cell? ⟨w.heap.size, 6, none⟩ = some (.int .i64 p)) ∧ Below w3.heap.size w3 w') := fun w' hb => ⟨(hS3.later hb).fx, hb⟩
    clear hS3
    go_wp2_with fail
    go_region_held3 (fun w' => (w'.cell? ⟨w.heap.size, 0, none⟩ = some (.int .i64 c) ∧ w'.cell? ⟨w.heap.size, 1, none⟩ = some (.int .i64 t) ∧ w'.cell? ⟨w.heap.size, 2, none⟩ = some (.int .i64 x) ∧ w'.cell? ⟨w.heap.size, 3, none⟩ = some (.int .i64 m) ∧ w'.cell? ⟨w.heap.size, 4, none⟩ = some (.int .i64 k) ∧ w'.cell? ⟨w.heap.size, 5, none⟩ = some (.int .i64 e) ∧ w'.cell? ⟨w.heap.size, 6, none⟩ = some (.int .i64 p)) ∧ Below w3.heap.size w3 w')
      (first | exact MK.out _ (bstep (by assumption) (sBel (by assumption))) | exact MK.out _ (Below.refl _ _).drew)
      (first
      | (go_at_call 11; refine (may9_any l f _ _ (HX.out.1.later (sBel (by assumption))) (HX.out.2.later (sBel (by assumption)))).mono ?_; rintro r w10 ⟨rfl, hb10⟩; rw [HV.out.1])
      | (go_at_call 12; refine (rmayL_any l f _ _ (HX.out.1.later (sBel (by assumption))) HLn.out).mono ?_; rintro r w11 ⟨rfl, hb11⟩; rw [HV.out.1])
      | (go_at_call 13; refine (of9_any c t x m k e p n _).mono ?_; rintro r w12 ⟨rfl, hb12⟩; rw [HV.out.2.1])
      | (go_at_call 14; refine (rof9_any c t x m k e p n _).mono ?_; rintro r w13 ⟨rfl, hb13⟩; rw [HV.out.2.1])
      | (go_at_call 15; refine (all9_any l f n _ _ (HX.out.1.later (sBel (by assumption)))).mono ?_; rintro r w14 ⟨rfl, hb14⟩; rw [HV.out.2.2.1])
      | (go_at_call 16; refine (rall9_any l f n _ _ (HX.out.1.later (sBel (by assumption)))).mono ?_; rintro r w15 ⟨rfl, hb15⟩; rw [HV.out.2.2.1])
      | (go_at_call 17; refine (hor9_any l f _ _ (HX.out.1.later (sBel (by assumption))) (HX.out.2.later (sBel (by assumption)))).mono ?_; rintro r w16 ⟨rfl, hb16⟩; rw [HV.out.2.2.2.1])
      | (go_at_call 18; refine (rhor9_any l f _ _ (HX.out.1.later (sBel (by assumption))) HLn.out).mono ?_; rintro r w17 ⟨rfl, hb17⟩; rw [HV.out.2.2.2.1])
      | (go_at_call 19; refine (first9_any l f _ _ (HX.out.1.later (sBel (by assumption))) (HX.out.2.later (sBel (by assumption)))).mono ?_; rintro r w18 ⟨rfl, hb18⟩; rw [HV.out.2.2.2.2.1])
      | (go_at_call 20; refine (rfirst9_any l f _ _ (HX.out.1.later (sBel (by assumption))) HLn.out).mono ?_; rintro r w19 ⟨rfl, hb19⟩; rw [HV.out.2.2.2.2.1])
      | (go_at_call 21; refine (test9_any l f _ _ (HX.out.1.later (sBel (by assumption))) (HX.out.2.later (sBel (by assumption)))).mono ?_; rintro r w20 ⟨rfl, hb20⟩; rw [HV.out.2.2.2.2.2])
      | (go_at_call 22; refine (rtest9_any l f _ _ (HX.out.1.later (sBel (by assumption))) HLn.out).mono ?_; rintro r w21 ⟨rfl, hb21⟩; rw [HV.out.2.2.2.2.2]))
    all_goals
      go_wp2
      go_ret
      exact ⟨by first | rfl | exact ret_b (by simp), hb3.trans ((sBel (by assumption)).mono hb3.size)⟩
end Go.Proofs.YteibaiflljcghaaDoor
