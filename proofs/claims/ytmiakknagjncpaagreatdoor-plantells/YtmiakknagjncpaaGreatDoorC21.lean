/- What the statement PlanTells comes to. -/
import Derived.Test.YtmiakknagjncpaaGreatDoorC20
namespace Go.Proofs.YtmiakknagjncpaaGreatDoor
open Go.RowKit Go.Shelf

set_option maxHeartbeats 2000000 in
set_option maxRecDepth 100000 in
theorem law_ptellsP (n l : Nat) (s : Nat → Sp) (f : Nat → Fx) (r : Int) (v u : Value) (w : World) (h : Sps w v n s) (h' : Fxs w u l f) (hL : Lim w) :
    Calls Tryz.prog 3 #[v, u, .int .i64 r] w fun e w' => e = .returned (.bool true) ∧ Below w.heap.size w w' := by
  have HX0 : Hid ((Sps w v n s ∧ Fxs w u l f) ∧ Lim w) := ⟨⟨h, h'⟩, hL⟩
  obtain ⟨ad, cap, rfl, _⟩ := h
  obtain ⟨ad', cap', rfl, _⟩ := h'
  clear hL
  obtain ⟨a, b, rb, hF⟩ := frT_exists n s
  have HF : Hid (FrT n s a b rb) := hF
  clear hF
  go_enter Tryz.func3, Tryz.ntmps3
  go_wp2_with fail
  refine (awake10_any _ HX0.out.2).mono ?_
  rintro e w1 ⟨rfl, hb1⟩
  have HX1 : Hid ((Sps w1 (.slice ad n cap) n s ∧ Fxs w1 (.slice ad' l cap') l f) ∧ Lim w1) := ⟨⟨HX0.out.1.1.later hb1, HX0.out.1.2.later hb1⟩, HX0.out.2.later hb1⟩
  clear HX0
  by_cases hn : (n : Int) > 10
  · go_wp2
    go_ret
    exact ⟨by first | rfl | exact ret_b (by simp) | exact ret_b (decide_eq_true (by omega)) | exact ret_b (by simp; omega), hb1⟩
  · by_cases hl : (l : Int) > 10
    · go_wp2
      go_ret
      exact ⟨by first | rfl | exact ret_b (by simp) | exact ret_b (decide_eq_true (by omega)) | exact ret_b (by simp; omega), hb1⟩
    · obtain ⟨G, hG⟩ : ∃ G, spgB n s = G := ⟨_, rfl⟩
      have HG : Hid (spgB n s = G) := hG
      obtain ⟨N, hN⟩ : ∃ N, spgN n s = N := ⟨_, rfl⟩
      have HN : Hid (spgN n s = N) := hN
      have hN' : N ≤ 10 := by rw [← hN]; unfold spgN; split <;> omega
      obtain ⟨E, hE⟩ : ∃ E, errV n s a b rb = E := ⟨_, rfl⟩
      have HE : Hid (errV n s a b rb = E) := hE
      obtain ⟨M, hM⟩ : ∃ M, tgN n s a b rb = M := ⟨_, rfl⟩
      have HM : Hid (tgN n s a b rb = M) := hM
      have hM' : M ≤ 10 := by rw [← hM]; unfold tgN; split <;> omega
      clear hG hN hE hM
      go_wp2_with fail
      refine (spgs_any n s _ _ HX1.out.1.1).mono ?_
      rintro e w2 ⟨x1, rfl, hx1, hb2⟩
      rw [HG.out]
      rw [HN.out] at hx1
      have HX2 : Hid ((Sps w2 (.slice ad n cap) n s ∧ Fxs w2 (.slice ad' l cap') l f) ∧ Lim w2) := ⟨⟨HX1.out.1.1.later hb2, HX1.out.1.2.later hb2⟩, HX1.out.2.later hb2⟩
      replace hb2 := hb1.trans (hb2.mono hb1.size)
      clear hb1 HX1
      go_wp2_with fail
      refine (rspgs_any n s _ _ HX2.out.1.1 (by omega)).mono ?_
      rintro e w3 ⟨x2, rfl, hx2, hb3⟩
      rw [HG.out]
      rw [HN.out] at hx2
      have HS3 : Hid (Sprs w3 x1 N (topF s) (leaF s) (elF s) ∧ Sprs w3 x2 N (topF s) (leaF s) (elF s)) := ⟨hx1.later hb3, hx2⟩
      have HX3 : Hid ((Sps w3 (.slice ad n cap) n s ∧ Fxs w3 (.slice ad' l cap') l f) ∧ Lim w3) := ⟨⟨HX2.out.1.1.later hb3, HX2.out.1.2.later hb3⟩, HX2.out.2.later hb3⟩
      replace hb3 := hb2.trans (hb3.mono hb2.size)
      clear hb2 HX2 hx1 hx2
      go_wp2_with fail
      refine (target_any n s a b rb _ _ HX3.out.1.1 HF.out HX3.out.2).mono ?_
      rintro e w4 ⟨y1, rfl, hy1, hb4⟩
      rw [HE.out]
      rw [HM.out] at hy1
      have HS4 : Hid (Sprs w4 x1 N (topF s) (leaF s) (elF s) ∧ Sprs w4 x2 N (topF s) (leaF s) (elF s)) := ⟨HS3.out.1.later hb4, HS3.out.2.later hb4⟩
      have HX4 : Hid ((Sps w4 (.slice ad n cap) n s ∧ Fxs w4 (.slice ad' l cap') l f) ∧ Lim w4) := ⟨⟨HX3.out.1.1.later hb4, HX3.out.1.2.later hb4⟩, HX3.out.2.later hb4⟩
      replace hb4 := hb3.trans (hb4.mono hb3.size)
      clear hb3 HX3 HS3
      go_wp2_with fail
      refine (rtarget_any n s a b rb _ _ HX4.out.1.1 HF.out).mono ?_
      rintro e w5 ⟨y2, rfl, hy2, hb5⟩
      rw [HE.out]
      rw [HM.out] at hy2
      have HY5 : Hid (Fxs w5 y1 M (tgF s a b) ∧ Fxs w5 y2 M (tgF s a b)) := ⟨hy1.later hb5, hy2⟩
      have HS5 : Hid (Sprs w5 x1 N (topF s) (leaF s) (elF s) ∧ Sprs w5 x2 N (topF s) (leaF s) (elF s)) := ⟨HS4.out.1.later hb5, HS4.out.2.later hb5⟩
      have HX5 : Hid (Fxs w5 (.slice ad' l cap') l f ∧ Lim w5) := ⟨HX4.out.1.2.later hb5, HX4.out.2.later hb5⟩
      replace hb5 := hb4.trans (hb5.mono hb4.size)
      clear hb4 HX4 HS4 hy1 hy2
      go_wp2_with fail
      refine (springy_self N _ _ _ _ _ _ HS5.out.1 HS5.out.2 (by omega)).mono ?_
      rintro e w6 ⟨rfl, hb6⟩
      have HY6 : Hid (Fxs w6 y1 M (tgF s a b) ∧ Fxs w6 y2 M (tgF s a b)) := ⟨HY5.out.1.later hb6, HY5.out.2.later hb6⟩
      have HX6 : Hid (Fxs w6 (.slice ad' l cap') l f ∧ Lim w6) := ⟨HX5.out.1.later hb6, HX5.out.2.later hb6⟩
      replace hb6 := hb5.trans (hb6.mono hb5.size)
      clear hb5 HX5 HS5 HY5
      go_wp2_with fail
      refine (same_self M _ _ _ _ HY6.out.1 HY6.out.2 (by omega)).mono ?_
      rintro e w7 ⟨rfl, hb7⟩
      have HX7 : Hid (Fxs w7 (.slice ad' l cap') l f ∧ Lim w7) := ⟨HX6.out.1.later hb7, HX6.out.2.later hb7⟩
      replace hb7 := hb6.trans (hb7.mono hb6.size)
      clear hb6 HX6 HY6
      go_wp2_with fail
      refine (bound_any l f r _ _ HX7.out.1 HX7.out.2).mono ?_
      rintro e w8 ⟨rfl, hb8⟩
      have HX8 : Hid (Fxs w8 (.slice ad' l cap') l f) := HX7.out.1.later hb8
      replace hb8 := hb7.trans (hb8.mono hb7.size)
      clear hb7 HX7
      go_wp2_with fail
      refine (rbound_any l f r _ _ HX8.out (by omega)).mono ?_
      rintro e w9 ⟨rfl, hb9⟩
      go_wp2
      go_ret
      exact ⟨by first | rfl | exact ret_b (by simp) | exact ret_b (decide_eq_true (by omega)) | exact ret_b (by simp; omega), hb8.trans (hb9.mono hb8.size)⟩
end Go.Proofs.YtmiakknagjncpaaGreatDoor
