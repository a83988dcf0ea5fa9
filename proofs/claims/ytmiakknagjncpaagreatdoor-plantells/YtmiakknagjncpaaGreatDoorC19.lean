/- Walks of the document's own answers of chapter 10: which periods all are to have. -/
import Derived.Test.YtmiakknagjncpaaGreatDoorC18
namespace Go.Proofs.YtmiakknagjncpaaGreatDoor
open Go.RowKit Go.Shelf

set_option maxHeartbeats 2000000 in
set_option maxRecDepth 100000 in
theorem rtarget_any (n : Nat) (s : Nat → Sp) (a b : Int) (rb : Bool) (v : Value) (w : World) (h : Sps w v n s) (hF : FrT n s a b rb) :
    Calls Tryz.prog 8 #[v] w (TgtE n s a b rb w) := by
  have HS : Hid (Sps w v n s) := h
  obtain ⟨ad, cap, rfl, h1, h2, h0, h3⟩ := h
  clear h0
  rcases err_cases (n := n) (s := s) (a := a) (b := b) (rb := rb) with ⟨hn, he⟩ | ⟨hn, hs, he⟩ | ⟨hn, hs, rfl, he⟩ | hrest
  · have H : Hid (errV n s a b rb = 3 ∧ tgN n s a b rb = 0) := ⟨he, tg_no (by omega)⟩
    clear he hF h3
    have hn' : (n : Int) > 4 := by omega
    go_enter Tryz.func8, Tryz.ntmps8
    go_wp2
    go_ret2
    exact ⟨_, by rw [H.out.1]; rfl, by rw [H.out.2]; exact Fxs.nil _ _, Below.refl _ _⟩
  · have H : Hid (errV n s a b rb = 1 ∧ tgN n s a b rb = 0) := ⟨he, tg_no (by omega)⟩
    have H1 : Hid (spgB n s = false) := (spg_no hs).1
    clear he hF hs h3
    have hn' : ¬ (n : Int) > 4 := by omega
    go_enter Tryz.func8, Tryz.ntmps8
    go_wp2_with fail
    refine (rspgs_any n s _ _ HS.out (by omega)).mono ?_
    rintro r w1 ⟨x, rfl, hx, hb1⟩
    rw [H1.out]
    clear hx
    go_wp2
    go_ret2
    exact ⟨_, by rw [H.out.1]; rfl, by rw [H.out.2]; exact Fxs.nil _ _, hb1⟩
  · have H : Hid (errV n s a b false = 5 ∧ tgN n s a b false = 0) := ⟨he, tg_no (by omega)⟩
    have H1 : Hid (spgB n s = true ∧ spgN n s = n) := spg_yes hn hs
    have HF : Hid (FrT n s a b false) := hF
    clear he hF hs h3
    have hn' : ¬ (n : Int) > 4 := by omega
    go_enter Tryz.func8, Tryz.ntmps8
    go_wp2_with fail
    refine (rspgs_any n s _ _ HS.out (by omega)).mono ?_
    rintro r w1 ⟨x, rfl, hx, hb1⟩
    rw [H1.out.1]
    rw [H1.out.2] at hx
    go_wp2_with fail
    refine (refPress7_any n _ _ _ 983040 a b false _ _ hx (by omega) HF.out).mono ?_
    rintro r w2 ⟨y, rfl, hown, hb2⟩
    clear hown
    go_wp2
    go_ret2
    exact ⟨_, by rw [H.out.1]; rfl, by rw [H.out.2]; exact Fxs.nil _ _, hb1.trans (hb2.mono hb1.size)⟩
  · obtain ⟨hn, hs, hr⟩ : n ≤ 4 ∧ spsB n s = true ∧ rb = true := by
      rcases hrest with ⟨h1, h2, h3, _⟩ | ⟨h1, h2, h3, _⟩ <;> exact ⟨h1, h2, h3⟩
    subst hr
    have HR : Hid ((tst9 n (tgF s a b) = false ∧ errV n s a b true = 6 ∧ tgN n s a b true = 0) ∨ (tst9 n (tgF s a b) = true ∧ errV n s a b true = 0 ∧ tgN n s a b true = n)) := by
      rcases hrest with ⟨_, _, _, ht, he⟩ | ⟨_, _, _, ht, he⟩
      · exact .inl ⟨ht, he, tg_no (by omega)⟩
      · exact .inr ⟨ht, he, tg_ok he⟩
    have H1 : Hid (spgB n s = true ∧ spgN n s = n) := spg_yes hn hs
    have HF : Hid (FrT n s a b true) := hF
    clear hF hs hrest
    have hn' : ¬ (n : Int) > 4 := by omega
    go_enter Tryz.func8, Tryz.ntmps8
    go_wp2_with fail
    refine (rspgs_any n s _ _ HS.out (by omega)).mono ?_
    rintro r w1 ⟨x, rfl, hx, hb1⟩
    rw [H1.out.1]
    rw [H1.out.2] at hx
    go_wp2_with fail
    refine (refPress7_any n _ _ _ 983040 a b true _ _ hx (by omega) HF.out).mono ?_
    rintro r w2 ⟨y, rfl, hown, hb2⟩
    replace hb2 := hb1.trans (hb2.mono hb1.size)
    obtain ⟨ax, cx, L, rfl, L1, L2, hLn, _, hL0⟩ := prs_open (Nums.own hown).1
    obtain rfl := hLn rfl
    clear hown hb1 hx hLn
    go_wp2_with fail
    go_loopw [8, 9] (fun s8 i wr => ∃ (j : Nat), j ≤ L ∧ i = .int .i64 j ∧ Hid (OwnF wr w2.heap.size s8 j (tgF s a b)) ∧ Below w2.heap.size w2 wr) (fun _ i _ => ((L : Int) - intOf i).toNat)
    case atStart => exact ⟨0, by omega, rfl, OwnF.nil _ _ _, Below.refl _ _⟩
    case round =>
      obtain ⟨j, hj, rfl, HO, hbw⟩ := hrel
      have hbW : Below w.heap.size w wr := hb2.trans (hbw.mono hb2.size)
      by_cases hlt : (j : Int) < L
      · obtain ⟨bk, o, rfl, h4⟩ := h3 (by omega)
        obtain ⟨bx, ox, rfl, hcx⟩ := hL0 (by omega)
        have hy := cell_later hbw (hcx j (by omega))
        have hrow := rowS_open (f := s j) (h4 j (by omega))
        clear h4 h3 hcx hL0
        obtain ⟨⟨cj, tj, xj, mj, kj, ej⟩, hf⟩ : ∃ y, s j = y := ⟨_, rfl⟩
        have HF : Hid (s j = ⟨cj, tj, xj, mj, kj, ej⟩) := hf
        rw [hf] at hrow
        clear hf
        obtain ⟨k0, k1, k2, k3, k4, k5⟩ := hrow
        simp only at k0 k1 k2 k3 k4 k5
        have e0 := cell_later hbW k0
        have e1 := cell_later hbW k1
        have e2 := cell_later hbW k2
        have e3 := cell_later hbW k3
        have e4 := cell_later hbW k4
        have e5 := cell_later hbW k5
        have sb := World.block_lt_of_cell? _ _ k0
        clear k0 k1 k2 k3 k4 k5
        have sw := hbW.size
        have HP : Hid (prF s a b j = ofP ⟨cj, tj, xj, mj, kj, ej⟩ (unF s a b j)) := by show _ = _; unfold prF; rw [HF.out]
        have HU : Hid (hv (topF s) (leaF s) (elF s) a b j = unF s a b j) := rfl
        rw [HU.out] at hy
        obtain ⟨y, hyy⟩ : ∃ y, unF s a b j = y := ⟨_, rfl⟩
        rw [hyy] at hy HP
        clear hyy HU
        have MK : Hid (∀ w' : World, Below wr.heap.size wr w' → (w'.cell? ⟨bk, o + j * 6, none⟩ = some (.int .i64 cj) ∧ w'.cell? ⟨bk, o + j * 6 + 1, none⟩ = some (.int .i64 tj) ∧ w'.cell? ⟨bk, o + j * 6 + 2, none⟩ = some (.int .i64 xj) ∧ w'.cell? ⟨bk, o + j * 6 + 3, none⟩ = some (.int .i64 mj) ∧ w'.cell? ⟨bk, o + j * 6 + 4, none⟩ = some (.int .i64 kj) ∧ w'.cell? ⟨bk, o + j * 6 + 5, none⟩ = some (.int .i64 ej)) ∧ w'.cell? ⟨bx, ox + j, none⟩ = some (.int .i64 y)) := fun w' hb => ⟨⟨cell_later hb e0, cell_later hb e1, cell_later hb e2, cell_later hb e3, cell_later hb e4, cell_later hb e5⟩, cell_later hb hy⟩
        have HD : Hid (Below wr.heap.size wr wr.drew) := (Below.refl _ _).drew
        have i0 : (0 : Int) ≤ (j : Int) := by omega
        clear e0 e1 e2 e3 e4 e5 hy
        go_wp2_with fail
        go_region_held3 (fun w' => ((w'.cell? ⟨bk, o + j * 6, none⟩ = some (.int .i64 cj) ∧ w'.cell? ⟨bk, o + j * 6 + 1, none⟩ = some (.int .i64 tj) ∧ w'.cell? ⟨bk, o + j * 6 + 2, none⟩ = some (.int .i64 xj) ∧ w'.cell? ⟨bk, o + j * 6 + 3, none⟩ = some (.int .i64 mj) ∧ w'.cell? ⟨bk, o + j * 6 + 4, none⟩ = some (.int .i64 kj) ∧ w'.cell? ⟨bk, o + j * 6 + 5, none⟩ = some (.int .i64 ej)) ∧ w'.cell? ⟨bx, ox + j, none⟩ = some (.int .i64 y)) ∧ Below wr.heap.size wr w')
          (first | exact ⟨MK.out _ HD.out, HD.out⟩ | exact ⟨MK.out _ (bstep (by assumption) (sBel (by assumption))), bstep (by assumption) (sBel (by assumption))⟩)
          (first
          | (go_at_call 30; refine (refPerOf_any cj tj xj mj kj ej y _).mono ?_; rintro r w3 ⟨rfl, hb3⟩))
        all_goals
          have hb3' : Below wr.heap.size wr w3 := sBel (by assumption)
          have HO3 : Hid (OwnF w3 w2.heap.size u8 j (tgF s a b)) := HO.out.later hb3'
          have hbw3 : Below w2.heap.size w2 w3 := hbw.trans (hb3'.mono hbw.size)
          obtain ⟨⟨e0, e1, e2, e3, e4, e5⟩, _⟩ := MK.out _ hb3'
          clear hb3 hb3' HD MK
          obtain ⟨pj, hpj⟩ : ∃ p, ofP ⟨cj, tj, xj, mj, kj, ej⟩ y = p := ⟨_, rfl⟩
          have HPj : Hid (tgF s a b j = ⟨cj, tj, xj, mj, kj, ej, pj⟩) := by show _ = _; unfold tgF; rw [HP.out, HF.out, hpj]
          rw [hpj]
          clear hpj HP
          have hown1 : OwnF (w3.alloc (.cells #[.int .i64 cj, .int .i64 tj, .int .i64 xj, .int .i64 mj, .int .i64 kj, .int .i64 ej, .int .i64 pj] 42)) w2.heap.size u8 j (tgF s a b) := HO3.out.later ((Below.refl _ _).alloc (Nat.le_refl _) _)
          have hlit : Fxs (w3.alloc (.cells #[.int .i64 cj, .int .i64 tj, .int .i64 xj, .int .i64 mj, .int .i64 kj, .int .i64 ej, .int .i64 pj] 42)) (.slice (some ⟨w3.heap.size, 0, none⟩) 1 1) 1 (fun _ => ⟨cj, tj, xj, mj, kj, ej, pj⟩) := Fxs.one (Sev.new w3 cj tj xj mj kj ej pj)
          have s3 := hbw3.size
          go_wp2_with (first
            | (at_builtin; refine append_fix rfl _ _ rfl w2.heap.size _ _ _ _ _ _ rfl hown1 rfl hlit (by omega) (by simp; omega) ?_; intro v' w4 hown4 hb4))
          have HB4 : Hid (Below w2.heap.size w2 w4) := (hbw3.alloc s3 _).trans hb4
          have HO4 : Hid (OwnF w4 w2.heap.size v' (j + 1) (tgF s a b)) := by
            refine hown4.congr fun i hi => ?_
            by_cases c : i < j
            · rw [cat9_left c]
            · rw [cat9_right (by omega), show i = j by omega, HPj.out]
          clear hown4 hown1 hlit hb4 hbw3 HO3
          go_wp2_with fail
          go_roundw
          case rel => exact ⟨j + 1, by omega, by go_num, HO4.out, HB4.out⟩
          case measure => simp [intOf]; omega
      · obtain rfl : j = L := by omega
        have HX : Hid (Fxs wr u8 j (tgF s a b)) := HO.out.fxs
        clear h3 hL0 HO
        go_wp2_with fail
        refine (rtest9_any j (tgF s a b) _ _ HX.out (by omega)).mono ?_
        rintro r w4 ⟨rfl, hb4⟩
        rcases HR.out with ⟨ht, he, hg⟩ | ⟨ht, he, hg⟩
        · have H : Hid (errV j s a b true = 6 ∧ tgN j s a b true = 0) := ⟨he, hg⟩
          rw [ht]
          clear ht he hg HR
          go_wp2
          go_ret2
          exact ⟨_, by rw [H.out.1]; rfl, by rw [H.out.2]; exact Fxs.nil _ _, hbW.trans (hb4.mono hbW.size)⟩
        · have H : Hid (errV j s a b true = 0 ∧ tgN j s a b true = j) := ⟨he, hg⟩
          rw [ht]
          clear ht he hg HR
          go_wp2
          go_ret2
          exact ⟨_, by rw [H.out.1]; rfl, by rw [H.out.2]; exact HX.out.later hb4, hbW.trans (hb4.mono hbW.size)⟩
end Go.Proofs.YtmiakknagjncpaaGreatDoor
