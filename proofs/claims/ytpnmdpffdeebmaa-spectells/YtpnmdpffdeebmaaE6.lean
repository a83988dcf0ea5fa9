/- Walks of package spec: Put. -/
import Derived.Test.YtpnmdpffdeebmaaE5
namespace Go.Proofs.Ytpnmdpffdeebmaa
open Go.RowKit

/-- Six bytes of which the first ones are written. -/
def Byt (w : World) (g : Nat) (s : Sp) (j : Nat) : Prop := ∀ i, i < 6 → w.cell? ⟨g, i, none⟩ = some (.int .u8 (if i < j then s.at i else 0)) ∧ w.frozen? ⟨g, i, none⟩ = false
theorem Byt.later {w w' : World} {g j : Nat} {s : Sp} (h : Byt w g s j) (hb : Below w.heap.size w w') : Byt w' g s j := by
  intro i hi
  obtain ⟨h1, h2⟩ := h i hi
  exact ⟨cell_later hb h1, (hb.frozen (p := ⟨g, i, none⟩) (World.block_lt_of_cell? _ _ h1)).trans h2⟩
theorem Byt.set {w : World} {g j : Nat} {s : Sp} (h : Byt w g s j) (hj : j < 6) (v : Int) (hv : v = s.at j) : Byt (w.setCell ⟨g, j, none⟩ (.int .u8 v)) g s (j + 1) := by
  intro i hi
  obtain ⟨h1, h2⟩ := h i hi
  refine ⟨?_, by simpa using h2⟩
  by_cases e : i = j
  · subst e; rw [if_pos (by omega), ← hv]; exact World.cell?_setCell_same _ _ _ h1
  · rw [World.cell?_setCell_other _ _ _ _ (by intro he; exact e (Addr.mk.injEq .. ▸ he).2.1.symm)]
    rw [h1]
    by_cases c : i < j
    · rw [if_pos c, if_pos (by omega)]
    · rw [if_neg c, if_neg (by omega)]
theorem at_lst (s : Sp) : ∀ i, i < 6 → (lst s).getD i 0 = s.at i := by
  intro i hi
  rcases (show i = 0 ∨ i = 1 ∨ i = 2 ∨ i = 3 ∨ i = 4 ∨ i = 5 by omega) with rfl | rfl | rfl | rfl | rfl | rfl <;> rfl
theorem Byt.bys {w : World} {g : Nat} {s : Sp} (h : Byt w g s 6) (hm : maySp s = true) : Bys w (.slice (some ⟨g, 0, none⟩) 6 6) (byS s) := by
  rw [byS_yes hm]
  refine ⟨_, 6, rfl, Nat.le_refl _, (by unfold maxLen; omega), (fun h => by cases h), lst_bd hm, fun _ => ⟨g, 0, rfl, fun i hi => ?_⟩⟩
  have hi' : i < 6 := hi
  rw [at_lst s i hi', Nat.zero_add, (h i hi').1, if_pos hi']
theorem Try.infoU8 : (Try.prog.info? 5).map (fun i => (i.zero, i.size, i.bytes)) = some (some (.int .u8 0), 1, 1) := by kernel_rfl
theorem may_bd {c t x m k e : Int} (h : maySp ⟨c, t, x, m, k, e⟩ = true) : (0 ≤ c ∧ c ≤ 255) ∧ (0 ≤ t ∧ t ≤ 255) ∧ (0 ≤ x ∧ x ≤ 255) ∧ (0 ≤ m ∧ m ≤ 255) ∧ (0 ≤ k ∧ k ≤ 255) ∧ (0 ≤ e ∧ e ≤ 255) := by
  rw [maySp_eq] at h
  have h' := of_decide_eq_true h
  simp only at h'
  omega

set_option maxHeartbeats 1000000 in
set_option maxRecDepth 100000 in
theorem spput_any (c t x m k e : Int) (w : World) :
    Calls Try.prog 9 #[.agg #[.int .i64 c, .int .i64 t, .int .i64 x, .int .i64 m, .int .i64 k, .int .i64 e]] w fun r w' => ∃ v, r = .returned (.tuple #[v, .bool (maySp ⟨c, t, x, m, k, e⟩)]) ∧ Bys w' v (byS ⟨c, t, x, m, k, e⟩) ∧ Below w.heap.size w w' := by
  have hS : Six (w.alloc (.cells #[.int .i64 c, .int .i64 t, .int .i64 x, .int .i64 m, .int .i64 k, .int .i64 e] 23)) w.heap.size (Sp.at ⟨c, t, x, m, k, e⟩) := Six.new w ⟨c, t, x, m, k, e⟩
  cases h : maySp ⟨c, t, x, m, k, e⟩
  · have H : Hid (maySp ⟨c, t, x, m, k, e⟩ = false) := h
    have H0 : Hid (byS ⟨c, t, x, m, k, e⟩ = []) := byS_no h
    clear h
    go_enter Try.func9, Try.ntmps9
    go_wp2_with fail
    refine (spmay_any c t x m k e _).mono ?_
    rintro r w1 ⟨rfl, hb1⟩
    rw [H.out]
    have hb : Below w.heap.size w w1 := ((Below.refl _ _).alloc (by simp) _).trans (hb1.mono (by simp))
    clear hb1 hS
    go_wp2_with fail
    go_ret2
    exact ⟨_, rfl, by rw [H0.out]; exact Bys.none _, hb⟩
  · have H : Hid (maySp ⟨c, t, x, m, k, e⟩ = true) := h
    have HB := may_bd h
    clear h
    go_enter Try.func9, Try.ntmps9
    go_wp2_with fail
    refine (spmay_any c t x m k e _).mono ?_
    rintro r w1 ⟨rfl, hb1⟩
    rw [H.out]
    have hb : Below w.heap.size w w1 := ((Below.refl _ _).alloc (by simp) _).trans (hb1.mono (by simp))
    have hS1 := Six.later hS hb1
    have s1 : w.heap.size < w1.heap.size := hS1.lt
    clear hb1 hS
    obtain ⟨i0, hi, hz0, hz1, hz2⟩ := info_parts Try.infoU8
    go_wp2_with (first
      | (at_make; refine wpList_make_full _ rfl _ _ 24 rfl w.heap.size 5 i0 (.int .u8 0) 1 Try.underlying24 hi hz0 hz1 .i64 .i64 6 6 6 rfl rfl rfl rfl (by rw [hz2]; omega) (by unfold maxLen; omega) hb.size ?_; intro w2 hown hgrow))
    have hT : Byt w2 w1.heap.size ⟨c, t, x, m, k, e⟩ 0 := by
      intro i hi
      refine ⟨(hown.cellAt i hi).trans ?_, hown.frozenAt i⟩
      rw [show Value.cells (.int .u8 0) = #[.int .u8 0] from rfl, Nat.mul_one, toList_madeCells_one, if_neg (by omega)]
      rw [List.getElem?_replicate, if_pos hi]
    have hb2 : Below w1.heap.size w1 w2 := (Below.refl _ _).grown hgrow (Nat.le_refl _) (by intro k hk; cases hk)
    have hS2 := hS1.later hb2
    replace hb2 := hb.trans (hb2.mono hb.size)
    clear hgrow hown hS1 hb i0 hi hz0 hz1 hz2
    go_wp2_with fail
    refine (parts_any _).mono ?_
    rintro r w3 ⟨rfl, hb3⟩
    have hT3 := hT.later hb3
    have hS3 := hS2.later hb3
    replace hb3 := hb2.trans (hb3.mono hb2.size)
    clear hT hS2 hb2
    go_wp2_with fail
    go_loopw [12] (fun i wr => ∃ (j : Nat), j ≤ 6 ∧ i = .int .i64 j ∧ Below w.heap.size w wr ∧ Six wr w.heap.size (Sp.at ⟨c, t, x, m, k, e⟩) ∧ Byt wr w1.heap.size ⟨c, t, x, m, k, e⟩ j) (fun i _ => ((6 : Int) - intOf i).toNat)
    case atStart => exact ⟨0, by omega, rfl, hb3, hS3, hT3⟩
    case round =>
      obtain ⟨j, hj, rfl, hbw, hSr, hTr⟩ := hrel
      clear hb3 hS3 hT3
      have s0 := hbw.size
      have s2 := hSr.lt
      have s3 : w1.heap.size < wr.heap.size := World.block_lt_of_cell? _ _ (hTr 0 (by omega)).1
      obtain ⟨a0, a1, a2, a3, a4, a5, b0, b1, b2, b3, b4, b5⟩ := hSr.sp
      obtain ⟨⟨l0, u0⟩, ⟨l1, u1⟩, ⟨l2, u2⟩, ⟨l3, u3⟩, ⟨l4, u4⟩, ⟨l5, u5⟩⟩ := HB
      rcases (show j = 0 ∨ j = 1 ∨ j = 2 ∨ j = 3 ∨ j = 4 ∨ j = 5 ∨ j = 6 by omega) with rfl | rfl | rfl | rfl | rfl | rfl | rfl
      · have hix := idx0
        obtain ⟨d0, d1⟩ := hTr 0 (by omega)
        rw [if_neg (by omega)] at d0
        have HT : Hid (Six wr w.heap.size (Sp.at ⟨c, t, x, m, k, e⟩) ∧ Byt wr w1.heap.size ⟨c, t, x, m, k, e⟩ 0) := ⟨hSr, hTr⟩
        clear hSr hTr
        go_wp2_with fail
        refine (get0_any c t x m k e _).mono ?_
        rintro r w5 ⟨rfl, hb5⟩
        have hbr : Below wr.heap.size wr w5 := ((Below.refl _ _).alloc (Nat.le_refl _) _).trans (hb5.mono (by simp))
        have HR : Hid (Six w5 w.heap.size (Sp.at ⟨c, t, x, m, k, e⟩) ∧ Byt w5 w1.heap.size ⟨c, t, x, m, k, e⟩ 0 ∧ Below w.heap.size w w5) := ⟨HT.out.1.later hbr, HT.out.2.later hbr, hbw.trans (hbr.mono s0)⟩
        have g0 := cell_later hbr d0
        have g1 := (hbr.frozen (p := ⟨w1.heap.size, 0, none⟩) s3).trans d1
        clear HT hb5 hbr d0 d1 a0 a1 a2 a3 a4 a5 b0 b1 b2 b3 b4 b5 hix
        go_wp2_with fail
        go_roundw
        case rel => exact ⟨1, by omega, by go_num, HR.out.2.2.setCell (by simp; omega) _, HR.out.1.other (by omega) _, HR.out.2.1.set (by omega) _ rfl⟩
        case measure => simp [intOf]
      · have hix := idx1
        obtain ⟨d0, d1⟩ := hTr 1 (by omega)
        rw [if_neg (by omega)] at d0
        have HT : Hid (Six wr w.heap.size (Sp.at ⟨c, t, x, m, k, e⟩) ∧ Byt wr w1.heap.size ⟨c, t, x, m, k, e⟩ 1) := ⟨hSr, hTr⟩
        clear hSr hTr
        go_wp2_with fail
        refine (get1_any c t x m k e _).mono ?_
        rintro r w5 ⟨rfl, hb5⟩
        have hbr : Below wr.heap.size wr w5 := ((Below.refl _ _).alloc (Nat.le_refl _) _).trans (hb5.mono (by simp))
        have HR : Hid (Six w5 w.heap.size (Sp.at ⟨c, t, x, m, k, e⟩) ∧ Byt w5 w1.heap.size ⟨c, t, x, m, k, e⟩ 1 ∧ Below w.heap.size w w5) := ⟨HT.out.1.later hbr, HT.out.2.later hbr, hbw.trans (hbr.mono s0)⟩
        have g0 := cell_later hbr d0
        have g1 := (hbr.frozen (p := ⟨w1.heap.size, 1, none⟩) s3).trans d1
        clear HT hb5 hbr d0 d1 a0 a1 a2 a3 a4 a5 b0 b1 b2 b3 b4 b5 hix
        go_wp2_with fail
        go_roundw
        case rel => exact ⟨2, by omega, by go_num, HR.out.2.2.setCell (by simp; omega) _, HR.out.1.other (by omega) _, HR.out.2.1.set (by omega) _ rfl⟩
        case measure => simp [intOf]
      · have hix := idx2
        obtain ⟨d0, d1⟩ := hTr 2 (by omega)
        rw [if_neg (by omega)] at d0
        have HT : Hid (Six wr w.heap.size (Sp.at ⟨c, t, x, m, k, e⟩) ∧ Byt wr w1.heap.size ⟨c, t, x, m, k, e⟩ 2) := ⟨hSr, hTr⟩
        clear hSr hTr
        go_wp2_with fail
        refine (get2_any c t x m k e _).mono ?_
        rintro r w5 ⟨rfl, hb5⟩
        have hbr : Below wr.heap.size wr w5 := ((Below.refl _ _).alloc (Nat.le_refl _) _).trans (hb5.mono (by simp))
        have HR : Hid (Six w5 w.heap.size (Sp.at ⟨c, t, x, m, k, e⟩) ∧ Byt w5 w1.heap.size ⟨c, t, x, m, k, e⟩ 2 ∧ Below w.heap.size w w5) := ⟨HT.out.1.later hbr, HT.out.2.later hbr, hbw.trans (hbr.mono s0)⟩
        have g0 := cell_later hbr d0
        have g1 := (hbr.frozen (p := ⟨w1.heap.size, 2, none⟩) s3).trans d1
        clear HT hb5 hbr d0 d1 a0 a1 a2 a3 a4 a5 b0 b1 b2 b3 b4 b5 hix
        go_wp2_with fail
        go_roundw
        case rel => exact ⟨3, by omega, by go_num, HR.out.2.2.setCell (by simp; omega) _, HR.out.1.other (by omega) _, HR.out.2.1.set (by omega) _ rfl⟩
        case measure => simp [intOf]
      · have hix := idx3
        obtain ⟨d0, d1⟩ := hTr 3 (by omega)
        rw [if_neg (by omega)] at d0
        have HT : Hid (Six wr w.heap.size (Sp.at ⟨c, t, x, m, k, e⟩) ∧ Byt wr w1.heap.size ⟨c, t, x, m, k, e⟩ 3) := ⟨hSr, hTr⟩
        clear hSr hTr
        go_wp2_with fail
        refine (get3_any c t x m k e _).mono ?_
        rintro r w5 ⟨rfl, hb5⟩
        have hbr : Below wr.heap.size wr w5 := ((Below.refl _ _).alloc (Nat.le_refl _) _).trans (hb5.mono (by simp))
        have HR : Hid (Six w5 w.heap.size (Sp.at ⟨c, t, x, m, k, e⟩) ∧ Byt w5 w1.heap.size ⟨c, t, x, m, k, e⟩ 3 ∧ Below w.heap.size w w5) := ⟨HT.out.1.later hbr, HT.out.2.later hbr, hbw.trans (hbr.mono s0)⟩
        have g0 := cell_later hbr d0
        have g1 := (hbr.frozen (p := ⟨w1.heap.size, 3, none⟩) s3).trans d1
        clear HT hb5 hbr d0 d1 a0 a1 a2 a3 a4 a5 b0 b1 b2 b3 b4 b5 hix
        go_wp2_with fail
        go_roundw
        case rel => exact ⟨4, by omega, by go_num, HR.out.2.2.setCell (by simp; omega) _, HR.out.1.other (by omega) _, HR.out.2.1.set (by omega) _ rfl⟩
        case measure => simp [intOf]
      · have hix := idx4
        obtain ⟨d0, d1⟩ := hTr 4 (by omega)
        rw [if_neg (by omega)] at d0
        have HT : Hid (Six wr w.heap.size (Sp.at ⟨c, t, x, m, k, e⟩) ∧ Byt wr w1.heap.size ⟨c, t, x, m, k, e⟩ 4) := ⟨hSr, hTr⟩
        clear hSr hTr
        go_wp2_with fail
        refine (get4_any c t x m k e _).mono ?_
        rintro r w5 ⟨rfl, hb5⟩
        have hbr : Below wr.heap.size wr w5 := ((Below.refl _ _).alloc (Nat.le_refl _) _).trans (hb5.mono (by simp))
        have HR : Hid (Six w5 w.heap.size (Sp.at ⟨c, t, x, m, k, e⟩) ∧ Byt w5 w1.heap.size ⟨c, t, x, m, k, e⟩ 4 ∧ Below w.heap.size w w5) := ⟨HT.out.1.later hbr, HT.out.2.later hbr, hbw.trans (hbr.mono s0)⟩
        have g0 := cell_later hbr d0
        have g1 := (hbr.frozen (p := ⟨w1.heap.size, 4, none⟩) s3).trans d1
        clear HT hb5 hbr d0 d1 a0 a1 a2 a3 a4 a5 b0 b1 b2 b3 b4 b5 hix
        go_wp2_with fail
        go_roundw
        case rel => exact ⟨5, by omega, by go_num, HR.out.2.2.setCell (by simp; omega) _, HR.out.1.other (by omega) _, HR.out.2.1.set (by omega) _ rfl⟩
        case measure => simp [intOf]
      · have hix := idx5
        obtain ⟨d0, d1⟩ := hTr 5 (by omega)
        rw [if_neg (by omega)] at d0
        have HT : Hid (Six wr w.heap.size (Sp.at ⟨c, t, x, m, k, e⟩) ∧ Byt wr w1.heap.size ⟨c, t, x, m, k, e⟩ 5) := ⟨hSr, hTr⟩
        clear hSr hTr
        go_wp2_with fail
        refine (get5_any c t x m k e _).mono ?_
        rintro r w5 ⟨rfl, hb5⟩
        have hbr : Below wr.heap.size wr w5 := ((Below.refl _ _).alloc (Nat.le_refl _) _).trans (hb5.mono (by simp))
        have HR : Hid (Six w5 w.heap.size (Sp.at ⟨c, t, x, m, k, e⟩) ∧ Byt w5 w1.heap.size ⟨c, t, x, m, k, e⟩ 5 ∧ Below w.heap.size w w5) := ⟨HT.out.1.later hbr, HT.out.2.later hbr, hbw.trans (hbr.mono s0)⟩
        have g0 := cell_later hbr d0
        have g1 := (hbr.frozen (p := ⟨w1.heap.size, 5, none⟩) s3).trans d1
        clear HT hb5 hbr d0 d1 a0 a1 a2 a3 a4 a5 b0 b1 b2 b3 b4 b5 hix
        go_wp2_with fail
        go_roundw
        case rel => exact ⟨6, by omega, by go_num, HR.out.2.2.setCell (by simp; omega) _, HR.out.1.other (by omega) _, HR.out.2.1.set (by omega) _ rfl⟩
        case measure => simp [intOf]
      · go_wp2_with fail
        go_ret2
        exact ⟨_, rfl, hTr.bys H.out, hbw⟩
end Go.Proofs.Ytpnmdpffdeebmaa
