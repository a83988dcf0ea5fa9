/- Walks of package plan: which periods all are to have. -/
import Derived.Test.YtmiakknagjncpaaGreatDoorC8
namespace Go.Proofs.YtmiakknagjncpaaGreatDoor
open Go.RowKit Go.Shelf

/-- What Target comes to. -/
def TgtE (n : Nat) (s : Nat → Sp) (a b : Int) (rb : Bool) (w : World) (r : Ending) (w' : World) : Prop := ∃ x, r = .returned (.tuple #[x, .int .i64 (errV n s a b rb)]) ∧ Fxs w' x (tgN n s a b rb) (tgF s a b) ∧ Below w.heap.size w w'
theorem Fxs.nil (w : World) (f : Nat → Fx) : Fxs w (.slice none 0 0) 0 f := ⟨none, 0, rfl, Nat.le_refl _, Nat.zero_le _, fun _ => rfl, fun h => by omega⟩

set_option maxHeartbeats 2000000 in
set_option maxRecDepth 100000 in
theorem target_any (n : Nat) (s : Nat → Sp) (a b : Int) (rb : Bool) (v : Value) (w : World) (h : Sps w v n s) (hF : FrT n s a b rb) (hL : Lim w) :
    Calls Tryz.prog 7 #[v] w (TgtE n s a b rb w) := by
  have HS : Hid (Sps w v n s ∧ Lim w) := ⟨h, hL⟩
  obtain ⟨ad, cap, rfl, h1, h2, h0, h3⟩ := h
  clear h3 h0 hL
  rcases err_cases (n := n) (s := s) (a := a) (b := b) (rb := rb) with ⟨hn, he⟩ | ⟨hn, hs, he⟩ | ⟨hn, hs, rfl, he⟩ | ⟨hn, hs, rfl, ht, he⟩ | ⟨hn, hs, rfl, ht, he⟩
  · have H : Hid (errV n s a b rb = 3 ∧ tgN n s a b rb = 0) := ⟨he, tg_no (by omega)⟩
    clear he hF
    have hn' : (n : Int) > 4 := by omega
    go_enter Tryz.func7, Tryz.ntmps7
    go_wp2
    go_ret2
    exact ⟨_, by rw [H.out.1]; rfl, by rw [H.out.2]; exact Fxs.nil _ _, Below.refl _ _⟩
  · have H : Hid (errV n s a b rb = 1 ∧ tgN n s a b rb = 0) := ⟨he, tg_no (by omega)⟩
    have H1 : Hid (spgB n s = false) := (spg_no hs).1
    clear he hF hs
    have hn' : ¬ (n : Int) > 4 := by omega
    go_enter Tryz.func7, Tryz.ntmps7
    go_wp2_with fail
    refine (spgs_any n s _ _ HS.out.1).mono ?_
    rintro r w1 ⟨x, rfl, hx, hb1⟩
    rw [H1.out]
    clear hx
    go_wp2
    go_ret2
    exact ⟨_, by rw [H.out.1]; rfl, by rw [H.out.2]; exact Fxs.nil _ _, hb1⟩
  · have H : Hid (errV n s a b false = 5 ∧ tgN n s a b false = 0) := ⟨he, tg_no (by omega)⟩
    have H1 : Hid (spgB n s = true ∧ spgN n s = n) := spg_yes hn hs
    have H2 : Hid (roomB n (topF s) (leaF s) (elF s) 983040 = false) := hF.1
    clear he hF hs
    have hn' : ¬ (n : Int) > 4 := by omega
    go_enter Tryz.func7, Tryz.ntmps7
    go_wp2_with fail
    refine (spgs_any n s _ _ HS.out.1).mono ?_
    rintro r w1 ⟨x, rfl, hx, hb1⟩
    rw [H1.out.1]
    rw [H1.out.2] at hx
    go_wp2_with fail
    refine (room7_any n _ _ _ 983040 _ _ hx (HS.out.2.later hb1)).mono ?_
    rintro r w2 ⟨rfl, hb2⟩
    rw [H2.out]
    go_wp2
    go_ret2
    exact ⟨_, by rw [H.out.1]; rfl, by rw [H.out.2]; exact Fxs.nil _ _, hb1.trans (hb2.mono hb1.size)⟩
  all_goals
    have H1 : Hid (spgB n s = true ∧ spgN n s = n) := spg_yes hn hs
    have H2 : Hid (roomB n (topF s) (leaF s) (elF s) 983040 = true) := hF.1
    have HF : Hid (FrT n s a b true) := hF
    have hn' : ¬ (n : Int) > 4 := by omega
    clear hF hs
  · have H : Hid (errV n s a b true = 6 ∧ tgN n s a b true = 0) := ⟨he, tg_no (by omega)⟩
    have HT : Hid (tst9 n (tgF s a b) = false) := ht
    clear he ht
    go_enter Tryz.func7, Tryz.ntmps7
    go_wp2_with fail
    refine (spgs_any n s _ _ HS.out.1).mono ?_
    rintro r w1 ⟨x, rfl, hx, hb1⟩
    rw [H1.out.1]
    rw [H1.out.2] at hx
    go_wp2_with fail
    refine (room7_any n _ _ _ 983040 _ _ hx (HS.out.2.later hb1)).mono ?_
    rintro r w2 ⟨rfl, hb2⟩
    rw [H2.out]
    have HX2 : Hid (Sprs w2 x n (topF s) (leaF s) (elF s)) := hx.later hb2
    replace hb2 := hb1.trans (hb2.mono hb1.size)
    clear hb1 hx
    go_wp2_with fail
    refine (press7_any n _ _ _ 983040 a b true _ _ HX2.out HF.out (HS.out.2.later hb2)).mono ?_
    rintro r w3 ⟨y, rfl, hown, hb3⟩
    replace hb3 := hb2.trans (hb3.mono hb2.size)
    obtain ⟨ax, cx, L, rfl, _, _, hLn, _, hL0⟩ := prs_open (Nums.own hown).1
    obtain rfl := hLn rfl
    have hbP : Below w.heap.size w (w3.alloc (.cells #[.slice ax L cx] 51)) := hb3.alloc hb3.size _
    have HP : Hid (0 < L → ∃ bx ox l cap', L ≤ l ∧ (w3.alloc (.cells #[.slice ax L cx] 51)).cell? ⟨w3.heap.size, 0, none⟩ = some (.slice (some ⟨bx, ox, none⟩) l cap') ∧ ∀ i, i < L → (w3.alloc (.cells #[.slice ax L cx] 51)).cell? ⟨bx, ox + i, none⟩ = some (.int .i64 (unF s a b i))) := fun h => by
      obtain ⟨bk, o, rfl, hc⟩ := hL0 h
      exact ⟨bk, o, L, cx, Nat.le_refl _, by simp, fun i hi => cell_later ((Below.refl _ _).alloc (Nat.le_refl _) _) (hc i hi)⟩
    clear hown hb2 HX2 hLn hL0
    go_wp2_with fail
    refine (eachF_any L s (unF s a b) w3.heap.size _ _ (HS.out.1.later hbP) hn HP.out).mono ?_
    rintro r w4 ⟨y4, rfl, hown4, hb4⟩
    have HX4 : Hid (Fxs w4 y4 L (tgF s a b)) := hown4.fxs
    replace hb4 := hbP.trans (hb4.mono hbP.size)
    clear hown4 hbP HP hb3
    go_wp2_with fail
    refine (test9_any L (tgF s a b) _ _ HX4.out (HS.out.2.later hb4)).mono ?_
    rintro r w5 ⟨rfl, hb5⟩
    rw [HT.out]
    go_wp2
    go_ret2
    exact ⟨_, by rw [H.out.1]; rfl, by rw [H.out.2]; exact Fxs.nil _ _, hb4.trans (hb5.mono hb4.size)⟩
  · have H : Hid (errV n s a b true = 0 ∧ tgN n s a b true = n) := ⟨he, tg_ok he⟩
    have HT : Hid (tst9 n (tgF s a b) = true) := ht
    clear he ht
    go_enter Tryz.func7, Tryz.ntmps7
    go_wp2_with fail
    refine (spgs_any n s _ _ HS.out.1).mono ?_
    rintro r w1 ⟨x, rfl, hx, hb1⟩
    rw [H1.out.1]
    rw [H1.out.2] at hx
    go_wp2_with fail
    refine (room7_any n _ _ _ 983040 _ _ hx (HS.out.2.later hb1)).mono ?_
    rintro r w2 ⟨rfl, hb2⟩
    rw [H2.out]
    have HX2 : Hid (Sprs w2 x n (topF s) (leaF s) (elF s)) := hx.later hb2
    replace hb2 := hb1.trans (hb2.mono hb1.size)
    clear hb1 hx
    go_wp2_with fail
    refine (press7_any n _ _ _ 983040 a b true _ _ HX2.out HF.out (HS.out.2.later hb2)).mono ?_
    rintro r w3 ⟨y, rfl, hown, hb3⟩
    replace hb3 := hb2.trans (hb3.mono hb2.size)
    obtain ⟨ax, cx, L, rfl, _, _, hLn, _, hL0⟩ := prs_open (Nums.own hown).1
    obtain rfl := hLn rfl
    have hbP : Below w.heap.size w (w3.alloc (.cells #[.slice ax L cx] 51)) := hb3.alloc hb3.size _
    have HP : Hid (0 < L → ∃ bx ox l cap', L ≤ l ∧ (w3.alloc (.cells #[.slice ax L cx] 51)).cell? ⟨w3.heap.size, 0, none⟩ = some (.slice (some ⟨bx, ox, none⟩) l cap') ∧ ∀ i, i < L → (w3.alloc (.cells #[.slice ax L cx] 51)).cell? ⟨bx, ox + i, none⟩ = some (.int .i64 (unF s a b i))) := fun h => by
      obtain ⟨bk, o, rfl, hc⟩ := hL0 h
      exact ⟨bk, o, L, cx, Nat.le_refl _, by simp, fun i hi => cell_later ((Below.refl _ _).alloc (Nat.le_refl _) _) (hc i hi)⟩
    clear hown hb2 HX2 hLn hL0
    go_wp2_with fail
    refine (eachF_any L s (unF s a b) w3.heap.size _ _ (HS.out.1.later hbP) hn HP.out).mono ?_
    rintro r w4 ⟨y4, rfl, hown4, hb4⟩
    have HX4 : Hid (Fxs w4 y4 L (tgF s a b)) := hown4.fxs
    replace hb4 := hbP.trans (hb4.mono hbP.size)
    clear hown4 hbP HP hb3
    go_wp2_with fail
    refine (test9_any L (tgF s a b) _ _ HX4.out (HS.out.2.later hb4)).mono ?_
    rintro r w5 ⟨rfl, hb5⟩
    rw [HT.out]
    go_wp2
    go_ret2
    exact ⟨_, by rw [H.out.1]; rfl, by rw [H.out.2]; exact HX4.out.later hb5, hb4.trans (hb5.mono hb4.size)⟩
end Go.Proofs.YtmiakknagjncpaaGreatDoor
