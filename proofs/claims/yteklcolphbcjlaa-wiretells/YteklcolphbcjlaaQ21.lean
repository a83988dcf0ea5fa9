/- Texts that belong together, one behind the other: BB30, BB31, BB32. -/
import Derived.Test.YteklcolphbcjlaaQ19
import Derived.Deep.RegionLaw
import Derived.Test.YteklcolphbcjlaaQ20
/- Walks of the document's own Get: Submit. -/
namespace Go.Proofs.Yteklcolphbcjlaa
open Go.RowKit

set_option maxHeartbeats 8000000 in
set_option maxRecDepth 100000 in
theorem roget16_3 (xs : List Int) (v : Value) (w : World) (h : Bys w v xs) (hl : 0 < xs.length) (hl20 : xs.length ≤ 20) (h0 : xs.getD 0 0 = 3)  :
    Calls Try.prog 12 #[v] w (GetE xs w) := by
  have HV : Hid ((∀ y, Below w.heap.size w y → Bys y v xs) ∧ 0 < xs.length ∧ xs.getD 0 0 = 3 ∧ xs.length ≤ 20) := ⟨fun y hy => h.later hy, hl, h0, hl20⟩
  obtain ⟨a, cap, rfl, h1, h2, h3, h4, h5⟩ := h
  obtain ⟨bb, oo, rfl, h6⟩ := h5 (by intro e; rw [e] at hl; simp at hl)
  have HD : Hid (∀ i, i < xs.length → 0 ≤ xs.getD i 0 ∧ xs.getD i 0 ≤ 255) := h4
  have HB : Hid (Bk ((w.alloc (.cells #[.int .i64 0, .int .i64 0, .int .i64 0, .int .i64 0, .int .i64 0, .int .i64 0, .int .i64 0, .int .i64 0, .int .i64 0, .int .i64 0, .int .i64 0, .int .i64 0, .int .i64 0, .slice none 0 0] 26)).alloc (.cells #[.int .i64 3, .int .i64 0, .int .i64 0, .int .i64 0, .int .i64 0, .int .i64 0, .int .i64 0, .int .i64 0, .int .i64 0, .int .i64 0, .int .i64 0, .int .i64 0, .int .i64 0, .slice none 0 0] 26)) w.heap.size [.int .i64 0, .int .i64 0, .int .i64 0, .int .i64 0, .int .i64 0, .int .i64 0, .int .i64 0, .int .i64 0, .int .i64 0, .int .i64 0, .int .i64 0, .int .i64 0, .int .i64 0, .slice none 0 0] ∧ Bk ((w.alloc (.cells #[.int .i64 0, .int .i64 0, .int .i64 0, .int .i64 0, .int .i64 0, .int .i64 0, .int .i64 0, .int .i64 0, .int .i64 0, .int .i64 0, .int .i64 0, .int .i64 0, .int .i64 0, .slice none 0 0] 26)).alloc (.cells #[.int .i64 3, .int .i64 0, .int .i64 0, .int .i64 0, .int .i64 0, .int .i64 0, .int .i64 0, .int .i64 0, .int .i64 0, .int .i64 0, .int .i64 0, .int .i64 0, .int .i64 0, .slice none 0 0] 26)) (w.heap.size + 1) [.int .i64 3, .int .i64 0, .int .i64 0, .int .i64 0, .int .i64 0, .int .i64 0, .int .i64 0, .int .i64 0, .int .i64 0, .int .i64 0, .int .i64 0, .int .i64 0, .int .i64 0, .slice none 0 0] ∧ Below w.heap.size w ((w.alloc (.cells #[.int .i64 0, .int .i64 0, .int .i64 0, .int .i64 0, .int .i64 0, .int .i64 0, .int .i64 0, .int .i64 0, .int .i64 0, .int .i64 0, .int .i64 0, .int .i64 0, .int .i64 0, .slice none 0 0] 26)).alloc (.cells #[.int .i64 3, .int .i64 0, .int .i64 0, .int .i64 0, .int .i64 0, .int .i64 0, .int .i64 0, .int .i64 0, .int .i64 0, .int .i64 0, .int .i64 0, .int .i64 0, .int .i64 0, .slice none 0 0] 26)) ∧ Below w.heap.size w (w.alloc (.cells #[.int .i64 0, .int .i64 0, .int .i64 0, .int .i64 0, .int .i64 0, .int .i64 0, .int .i64 0, .int .i64 0, .int .i64 0, .int .i64 0, .int .i64 0, .int .i64 0, .int .i64 0, .slice none 0 0] 26)) ∧ ((w.alloc (.cells #[.int .i64 0, .int .i64 0, .int .i64 0, .int .i64 0, .int .i64 0, .int .i64 0, .int .i64 0, .int .i64 0, .int .i64 0, .int .i64 0, .int .i64 0, .int .i64 0, .int .i64 0, .slice none 0 0] 26)).alloc (.cells #[.int .i64 3, .int .i64 0, .int .i64 0, .int .i64 0, .int .i64 0, .int .i64 0, .int .i64 0, .int .i64 0, .int .i64 0, .int .i64 0, .int .i64 0, .int .i64 0, .int .i64 0, .slice none 0 0] 26)).heap.size = w.heap.size + 2) := ⟨(Bk.new w _ _).later (below_b1 _ _), (by have := Bk.new (w.alloc (.cells #[.int .i64 0, .int .i64 0, .int .i64 0, .int .i64 0, .int .i64 0, .int .i64 0, .int .i64 0, .int .i64 0, .int .i64 0, .int .i64 0, .int .i64 0, .int .i64 0, .int .i64 0, .slice none 0 0] 26)) [.int .i64 3, .int .i64 0, .int .i64 0, .int .i64 0, .int .i64 0, .int .i64 0, .int .i64 0, .int .i64 0, .int .i64 0, .int .i64 0, .int .i64 0, .int .i64 0, .int .i64 0, .slice none 0 0] 26; simp only [World.size_alloc] at this; exact this), below_b2 _ _ _, below_b1 _ _, by simp⟩
  have e0 := cell_later HB.out.2.2.2.1 (h6 0 hl)
  rw [Nat.add_zero, h0] at e0
  have bk := h4 0 hl
  rw [h0] at bk
  have wk : IntKind.i64.wrap 3 = 3 := by rw [IntKind.wrap_i64]; omega
  have c0' : ((xs.length : Int) == 0) = false := beq_eq_false_iff_ne.2 (by omega)
  have c20 : ¬ (20 : Int) < xs.length := by omega
  have hln : (0 : Int) < xs.length := by omega
  have h1c : (1 : Int) ≤ cap := by omega
  have h1d : (1 : Int) ≤ xs.length := by omega
  have HX : Hid (xs.getD 1 0 = xs.getD 1 0) := rfl
  obtain ⟨x1, hx1⟩ : ∃ x, xs.getD 1 0 = x := ⟨_, rfl⟩
  obtain ⟨x2, hx2⟩ : ∃ x, xs.getD 2 0 = x := ⟨_, rfl⟩
  obtain ⟨x3, hx3⟩ : ∃ x, xs.getD 3 0 = x := ⟨_, rfl⟩
  obtain ⟨x4, hx4⟩ : ∃ x, xs.getD 4 0 = x := ⟨_, rfl⟩
  obtain ⟨x5, hx5⟩ : ∃ x, xs.getD 5 0 = x := ⟨_, rfl⟩
  obtain ⟨x6, hx6⟩ : ∃ x, xs.getD 6 0 = x := ⟨_, rfl⟩
  have y1 := bd_all HD.out 1
  have y2 := bd_all HD.out 2
  have y3 := bd_all HD.out 3
  have y4 := bd_all HD.out 4
  have y5 := bd_all HD.out 5
  have y6 := bd_all HD.out 6
  rw [hx1] at y1
  rw [hx2] at y2
  rw [hx3] at y3
  rw [hx4] at y4
  rw [hx5] at y5
  rw [hx6] at y6
  have u1 : IntKind.i64.wrap x1 = x1 := by rw [IntKind.wrap_i64]; omega
  have u2 : IntKind.i64.wrap x2 = x2 := by rw [IntKind.wrap_i64]; omega
  have u3 : IntKind.i64.wrap x3 = x3 := by rw [IntKind.wrap_i64]; omega
  have u4 : IntKind.i64.wrap x4 = x4 := by rw [IntKind.wrap_i64]; omega
  have u5 : IntKind.i64.wrap x5 = x5 := by rw [IntKind.wrap_i64]; omega
  have u6 : IntKind.i64.wrap x6 = x6 := by rw [IntKind.wrap_i64]; omega
  have p1 : IntKind.i64.wrap (x1 * 256) = x1 * 256 := by rw [IntKind.wrap_i64]; omega
  have p2 : IntKind.i64.wrap (x1 * 256 + x2) = x1 * 256 + x2 := by rw [IntKind.wrap_i64]; omega
  have p3 : IntKind.i64.wrap (x3 * 256) = x3 * 256 := by rw [IntKind.wrap_i64]; omega
  have p4 : IntKind.i64.wrap (x3 * 256 + x4) = x3 * 256 + x4 := by rw [IntKind.wrap_i64]; omega
  have HXS : Hid (xs.getD 1 0 = x1 ∧ xs.getD 2 0 = x2 ∧ xs.getD 3 0 = x3 ∧ xs.getD 4 0 = x4 ∧ xs.getD 5 0 = x5 ∧ xs.getD 6 0 = x6) := ⟨hx1, hx2, hx3, hx4, hx5, hx6⟩
  have HO : Hid (odG xs = ⟨3, 0, ⟨0, 0, 0, 0, 0, 0⟩, 0, 0, x1, x2, x3 * 256 + x4, []⟩) := by show _ = _; rw [odG_3 h0, hx1, hx2, hx3, hx4]
  clear h3 h4 h5 h6 h0 hx1 hx2 hx3 hx4 hx5 hx6 y1 y2 y3 y4 y5 y6 HX
  rcases Nat.lt_or_ge 1 cap with hc | hc
  case' inl =>
    have hc' : (1 : Int) < cap := by omega
    have HRV : Hid (∀ y, Below w.heap.size w y → Bys y (.slice (some ⟨bb, oo + 1, none⟩) (xs.length - 1) (cap - 1)) (xs.drop 1)) := fun y hy => (HV.out.1 y hy).rest1 (S := 1) HV.out.2.1 (oo + 1) (fun _ => rfl)
    go_enter Try.func12, Try.ntmps12
    go_upto_region 4 with fail
    generalize ((w.alloc (.cells #[.int .i64 0, .int .i64 0, .int .i64 0, .int .i64 0, .int .i64 0, .int .i64 0, .int .i64 0, .int .i64 0, .int .i64 0, .int .i64 0, .int .i64 0, .int .i64 0, .int .i64 0, .slice none 0 0] 26)).alloc (.cells #[.int .i64 3, .int .i64 0, .int .i64 0, .int .i64 0, .int .i64 0, .int .i64 0, .int .i64 0, .int .i64 0, .int .i64 0, .int .i64 0, .int .i64 0, .int .i64 0, .int .i64 0, .slice none 0 0] 26)) = W at *
    have hWb : w.heap.size + 2 ≤ W.heap.size := by have := HB.out.2.2.2.2; omega
    go_wp2_with (first
      | (at_builtin; have h27 := ho25; refine append_ys rfl _ _ rfl (w.heap.size + 2) _ _ _ [0, 0, 0, 0, 0, 0] rfl (h27.later (below_b1 _ (.cells #[.int .u8 0, .int .u8 0, .int .u8 0, .int .u8 0, .int .u8 0, .int .u8 0] 5))) rfl (byL 0 (owy_six _ 0 0 0 0 0 0 0 (Nat.zero_le _)) (fun x hx => by simp at hx; omega)) (by have := HV.out.2.2.2; simp; omega) (by have := hb25.size; simp; omega) ?_; intro v27 w27 ho27 hb27; refine Hid.out ?_)
      | (at_builtin; refine append_ys rfl _ _ rfl (w.heap.size + 2) (.slice none 0 0) _ [] (xs.drop 1) rfl (OwY.nil _ _) rfl (HRV.out _ HB.out.2.2.1) (by have := HV.out.2.2.2; simp; omega) hWb ?_; intro v25 w25 ho25 hb25))
    obtain ⟨g, cg, m, ev, hm6, hg, hbg, hpk, hpz, hbb⟩ := post27 HB.out.1 HB.out.2.1 HB.out.2.2.1 HB.out.2.2.2.2 hb25 hb27 ho27
    subst ev
    have b0 : (0 : Int) < m := by omega
    have b00 : 0 < m := by omega
    have b01 : 1 < m := by omega
    have b02 : 2 < m := by omega
    have b03 : 3 < m := by omega
    have b04 : 4 < m := by omega
    have b05 : 5 < m := by omega
    have b1 : (1 : Int) < m := by omega
    have b2 : (2 : Int) < m := by omega
    have b3 : (3 : Int) < m := by omega
    have b4 : (4 : Int) < m := by omega
    have b5 : (5 : Int) < m := by omega
    have HG : Hid (Bk w27 g (bv8 (padB xs)) ∧ Bk w27 (w.heap.size + 1) [.int .i64 3, .int .i64 0, .int .i64 0, .int .i64 0, .int .i64 0, .int .i64 0, .int .i64 0, .int .i64 0, .int .i64 0, .int .i64 0, .int .i64 0, .int .i64 0, .int .i64 0, .slice none 0 0] ∧ Bk w27 w.heap.size [.int .i64 0, .int .i64 0, .int .i64 0, .int .i64 0, .int .i64 0, .int .i64 0, .int .i64 0, .int .i64 0, .int .i64 0, .int .i64 0, .int .i64 0, .int .i64 0, .int .i64 0, .slice none 0 0] ∧ Below w.heap.size w w27 ∧ w.heap.size + 2 ≤ g) := ⟨hbg, hpk, hpz, hbb, hg⟩
    have n0 : w27.cell? ⟨g, 0, none⟩ = some (.int .u8 x1) := by rw [← HXS.out.1]; exact hbg.cell (padB_at (i := 0) (by decide))
    have n1 : w27.cell? ⟨g, 1, none⟩ = some (.int .u8 x2) := by rw [← HXS.out.2.1]; exact hbg.cell (padB_at (i := 1) (by decide))
    have n2 : w27.cell? ⟨g, 2, none⟩ = some (.int .u8 x3) := by rw [← HXS.out.2.2.1]; exact hbg.cell (padB_at (i := 2) (by decide))
    have n3 : w27.cell? ⟨g, 3, none⟩ = some (.int .u8 x4) := by rw [← HXS.out.2.2.2.1]; exact hbg.cell (padB_at (i := 3) (by decide))
    have n4 : w27.cell? ⟨g, 4, none⟩ = some (.int .u8 x5) := by rw [← HXS.out.2.2.2.2.1]; exact hbg.cell (padB_at (i := 4) (by decide))
    have n5 : w27.cell? ⟨g, 5, none⟩ = some (.int .u8 x6) := by rw [← HXS.out.2.2.2.2.2]; exact hbg.cell (padB_at (i := 5) (by decide))
    obtain ⟨c0, c1, c2, c3, c4, c5, c6, c7, c8, c9, c10, c11, c12, c13⟩ := HG.out.2.1.c14
    obtain ⟨f0, f1, f2, f3, f4, f5, f6, f7, f8, f9, f10, f11, f12, f13⟩ := HG.out.2.1.f14
    have hgn : g ≠ w.heap.size + 1 := by omega
    clear ho27 hb27 ho25 hb25 hbg hpk hpz hbb hg hWb
    unfold Hid
    go_wp2_with fail
  case' inr =>
    obtain rfl : cap = 1 := by omega
    have hl1 : xs.length - 1 = 0 := by omega
    have HRV : Hid (∀ y, Below w.heap.size w y → Bys y (.slice (some ⟨bb, oo, none⟩) 0 0) (xs.drop 1)) := fun y hy => by
      have := (HV.out.1 y hy).rest1 (S := 1) HV.out.2.1 oo (fun h => absurd h (by omega))
      rw [hl1] at this
      exact this
    go_enter Try.func12, Try.ntmps12
    go_upto_region 4 with fail
    generalize ((w.alloc (.cells #[.int .i64 0, .int .i64 0, .int .i64 0, .int .i64 0, .int .i64 0, .int .i64 0, .int .i64 0, .int .i64 0, .int .i64 0, .int .i64 0, .int .i64 0, .int .i64 0, .int .i64 0, .slice none 0 0] 26)).alloc (.cells #[.int .i64 3, .int .i64 0, .int .i64 0, .int .i64 0, .int .i64 0, .int .i64 0, .int .i64 0, .int .i64 0, .int .i64 0, .int .i64 0, .int .i64 0, .int .i64 0, .int .i64 0, .slice none 0 0] 26)) = W at *
    have hWb : w.heap.size + 2 ≤ W.heap.size := by have := HB.out.2.2.2.2; omega
    go_wp2_with (first
      | (at_builtin; have h27 := ho25; refine append_ys rfl _ _ rfl (w.heap.size + 2) _ _ _ [0, 0, 0, 0, 0, 0] rfl (h27.later (below_b1 _ (.cells #[.int .u8 0, .int .u8 0, .int .u8 0, .int .u8 0, .int .u8 0, .int .u8 0] 5))) rfl (byL 0 (owy_six _ 0 0 0 0 0 0 0 (Nat.zero_le _)) (fun x hx => by simp at hx; omega)) (by have := HV.out.2.2.2; simp; omega) (by have := hb25.size; simp; omega) ?_; intro v27 w27 ho27 hb27; refine Hid.out ?_)
      | (at_builtin; refine append_ys rfl _ _ rfl (w.heap.size + 2) (.slice none 0 0) _ [] (xs.drop 1) rfl (OwY.nil _ _) rfl (HRV.out _ HB.out.2.2.1) (by have := HV.out.2.2.2; simp; omega) hWb ?_; intro v25 w25 ho25 hb25))
    obtain ⟨g, cg, m, ev, hm6, hg, hbg, hpk, hpz, hbb⟩ := post27 HB.out.1 HB.out.2.1 HB.out.2.2.1 HB.out.2.2.2.2 hb25 hb27 ho27
    subst ev
    have b0 : (0 : Int) < m := by omega
    have b00 : 0 < m := by omega
    have b01 : 1 < m := by omega
    have b02 : 2 < m := by omega
    have b03 : 3 < m := by omega
    have b04 : 4 < m := by omega
    have b05 : 5 < m := by omega
    have b1 : (1 : Int) < m := by omega
    have b2 : (2 : Int) < m := by omega
    have b3 : (3 : Int) < m := by omega
    have b4 : (4 : Int) < m := by omega
    have b5 : (5 : Int) < m := by omega
    have HG : Hid (Bk w27 g (bv8 (padB xs)) ∧ Bk w27 (w.heap.size + 1) [.int .i64 3, .int .i64 0, .int .i64 0, .int .i64 0, .int .i64 0, .int .i64 0, .int .i64 0, .int .i64 0, .int .i64 0, .int .i64 0, .int .i64 0, .int .i64 0, .int .i64 0, .slice none 0 0] ∧ Bk w27 w.heap.size [.int .i64 0, .int .i64 0, .int .i64 0, .int .i64 0, .int .i64 0, .int .i64 0, .int .i64 0, .int .i64 0, .int .i64 0, .int .i64 0, .int .i64 0, .int .i64 0, .int .i64 0, .slice none 0 0] ∧ Below w.heap.size w w27 ∧ w.heap.size + 2 ≤ g) := ⟨hbg, hpk, hpz, hbb, hg⟩
    have n0 : w27.cell? ⟨g, 0, none⟩ = some (.int .u8 x1) := by rw [← HXS.out.1]; exact hbg.cell (padB_at (i := 0) (by decide))
    have n1 : w27.cell? ⟨g, 1, none⟩ = some (.int .u8 x2) := by rw [← HXS.out.2.1]; exact hbg.cell (padB_at (i := 1) (by decide))
    have n2 : w27.cell? ⟨g, 2, none⟩ = some (.int .u8 x3) := by rw [← HXS.out.2.2.1]; exact hbg.cell (padB_at (i := 2) (by decide))
    have n3 : w27.cell? ⟨g, 3, none⟩ = some (.int .u8 x4) := by rw [← HXS.out.2.2.2.1]; exact hbg.cell (padB_at (i := 3) (by decide))
    have n4 : w27.cell? ⟨g, 4, none⟩ = some (.int .u8 x5) := by rw [← HXS.out.2.2.2.2.1]; exact hbg.cell (padB_at (i := 4) (by decide))
    have n5 : w27.cell? ⟨g, 5, none⟩ = some (.int .u8 x6) := by rw [← HXS.out.2.2.2.2.2]; exact hbg.cell (padB_at (i := 5) (by decide))
    obtain ⟨c0, c1, c2, c3, c4, c5, c6, c7, c8, c9, c10, c11, c12, c13⟩ := HG.out.2.1.c14
    obtain ⟨f0, f1, f2, f3, f4, f5, f6, f7, f8, f9, f10, f11, f12, f13⟩ := HG.out.2.1.f14
    have hgn : g ≠ w.heap.size + 1 := by omega
    clear ho27 hb27 ho25 hb25 hbg hpk hpz hbb hg hWb
    unfold Hid
    go_wp2_with fail
  all_goals
    have hgn' : w.heap.size + 1 ≠ g := fun e => hgn e.symm
    have HG2 : Hid (Bk ((w27.setCell ⟨w.heap.size + 1, 10, none⟩ (.int .i64 x1)).setCell ⟨w.heap.size + 1, 11, none⟩ (.int .i64 x2)) g (bv8 (padB xs)) ∧ Bk ((w27.setCell ⟨w.heap.size + 1, 10, none⟩ (.int .i64 x1)).setCell ⟨w.heap.size + 1, 11, none⟩ (.int .i64 x2)) (w.heap.size + 1) [.int .i64 3, .int .i64 0, .int .i64 0, .int .i64 0, .int .i64 0, .int .i64 0, .int .i64 0, .int .i64 0, .int .i64 0, .int .i64 0, .int .i64 x1, .int .i64 x2, .int .i64 0, .slice none 0 0] ∧ Bk ((w27.setCell ⟨w.heap.size + 1, 10, none⟩ (.int .i64 x1)).setCell ⟨w.heap.size + 1, 11, none⟩ (.int .i64 x2)) w.heap.size [.int .i64 0, .int .i64 0, .int .i64 0, .int .i64 0, .int .i64 0, .int .i64 0, .int .i64 0, .int .i64 0, .int .i64 0, .int .i64 0, .int .i64 0, .int .i64 0, .int .i64 0, .slice none 0 0] ∧ Below w.heap.size w ((w27.setCell ⟨w.heap.size + 1, 10, none⟩ (.int .i64 x1)).setCell ⟨w.heap.size + 1, 11, none⟩ (.int .i64 x2)) ∧ w.heap.size + 2 ≤ g) := ⟨((HG.out.1).other hgn' _).other hgn' _, ((HG.out.2.1).set 10 _).set 11 _, ((HG.out.2.2.1).other (by omega) _).other (by omega) _, ((HG.out.2.2.2.1).setCell (p := ⟨w.heap.size + 1, 10, none⟩) (by show w.heap.size ≤ w.heap.size + 1; omega) _).setCell (p := ⟨w.heap.size + 1, 11, none⟩) (by show w.heap.size ≤ w.heap.size + 1; omega) _, HG.out.2.2.2.2⟩
    generalize ((w27.setCell ⟨w.heap.size + 1, 10, none⟩ (.int .i64 x1)).setCell ⟨w.heap.size + 1, 11, none⟩ (.int .i64 x2)) = W3 at *
    clear HG hgn'
    clear n0 n1 n2 n3 n4 n5 c0 c1 c2 c3 c4 c5 c6 c7 c8 c9 c10 c11 c12 c13 f0 f1 f2 f3 f4 f5 f6 f7 f8 f9 f10 f11 f12 f13
    have HG := HG2
    clear HG2
    have hbg := HG.out.1
    have n0 := hbg.cell (padB_at (i := 0) (by decide))
    have n1 := hbg.cell (padB_at (i := 1) (by decide))
    have n2 := hbg.cell (padB_at (i := 2) (by decide))
    have n3 := hbg.cell (padB_at (i := 3) (by decide))
    have n4 := hbg.cell (padB_at (i := 4) (by decide))
    have n5 := hbg.cell (padB_at (i := 5) (by decide))
    rw [HXS.out.1] at n0
    rw [HXS.out.2.1] at n1
    rw [HXS.out.2.2.1] at n2
    rw [HXS.out.2.2.2.1] at n3
    rw [HXS.out.2.2.2.2.1] at n4
    rw [HXS.out.2.2.2.2.2] at n5
    clear hbg
    obtain ⟨c0, c1, c2, c3, c4, c5, c6, c7, c8, c9, c10, c11, c12, c13⟩ := HG.out.2.1.c14
    obtain ⟨f0, f1, f2, f3, f4, f5, f6, f7, f8, f9, f10, f11, f12, f13⟩ := HG.out.2.1.f14
    have hgn' : w.heap.size + 1 ≠ g := fun e => hgn e.symm
    have KP : Hid (∀ y : World, Bk y g (bv8 (padB xs)) → y.cell? ⟨g, 0, none⟩ = some (.int .u8 x1) ∧ y.cell? ⟨g, 1, none⟩ = some (.int .u8 x2) ∧ y.cell? ⟨g, 2, none⟩ = some (.int .u8 x3) ∧ y.cell? ⟨g, 3, none⟩ = some (.int .u8 x4) ∧ y.cell? ⟨g, 4, none⟩ = some (.int .u8 x5) ∧ y.cell? ⟨g, 5, none⟩ = some (.int .u8 x6)) := fun y hy => by
      have a0 := hy.cell (padB_at (i := 0) (by decide))
      have a1 := hy.cell (padB_at (i := 1) (by decide))
      have a2 := hy.cell (padB_at (i := 2) (by decide))
      have a3 := hy.cell (padB_at (i := 3) (by decide))
      have a4 := hy.cell (padB_at (i := 4) (by decide))
      have a5 := hy.cell (padB_at (i := 5) (by decide))
      obtain ⟨q1, q2, q3, q4, q5, q6⟩ := HXS.out
      rw [q1] at a0
      rw [q2] at a1
      rw [q3] at a2
      rw [q4] at a3
      rw [q5] at a4
      rw [q6] at a5
      exact ⟨a0, a1, a2, a3, a4, a5⟩
    go_region_held3 (fun y => y.cell? ⟨g, 0, none⟩ = some (.int .u8 x1) ∧ y.cell? ⟨g, 1, none⟩ = some (.int .u8 x2) ∧ y.cell? ⟨g, 2, none⟩ = some (.int .u8 x3) ∧ y.cell? ⟨g, 3, none⟩ = some (.int .u8 x4) ∧ y.cell? ⟨g, 4, none⟩ = some (.int .u8 x5) ∧ y.cell? ⟨g, 5, none⟩ = some (.int .u8 x6))
      (first | exact ⟨n0, n1, n2, n3, n4, n5⟩ | exact KP.out _ ((HG.out.1.later (Below.refl _ _).drew).other hgn' _) | exact KP.out _ (((HG.out.1).other hgn' _).later (Below.refl _ _).drew))
      (first | fail)
  all_goals
    have HZ : Hid (Bk (W3.setCell ⟨w.heap.size + 1, 12, none⟩ (.int .i64 (x3 * 256 + x4))).drew (w.heap.size + 1) [.int .i64 3, .int .i64 0, .int .i64 0, .int .i64 0, .int .i64 0, .int .i64 0, .int .i64 0, .int .i64 0, .int .i64 0, .int .i64 0, .int .i64 x1, .int .i64 x2, .int .i64 (x3 * 256 + x4), .slice none 0 0] ∧ Bk (W3.setCell ⟨w.heap.size + 1, 12, none⟩ (.int .i64 (x3 * 256 + x4))).drew w.heap.size [.int .i64 0, .int .i64 0, .int .i64 0, .int .i64 0, .int .i64 0, .int .i64 0, .int .i64 0, .int .i64 0, .int .i64 0, .int .i64 0, .int .i64 0, .int .i64 0, .int .i64 0, .slice none 0 0] ∧ Below w.heap.size w (W3.setCell ⟨w.heap.size + 1, 12, none⟩ (.int .i64 (x3 * 256 + x4))).drew) := ⟨((HG.out.2.1).set 12 _).later (Below.refl _ _).drew, ((HG.out.2.2.1).other (by omega) _).later (Below.refl _ _).drew, ((HG.out.2.2.2.1).setCell (p := ⟨w.heap.size + 1, 12, none⟩) (by show w.heap.size ≤ w.heap.size + 1; omega) _).drew⟩
    generalize (W3.setCell ⟨w.heap.size + 1, 12, none⟩ (.int .i64 (x3 * 256 + x4))).drew = W4 at *
    clear HG KP
    clear n0 n1 n2 n3 n4 n5 c0 c1 c2 c3 c4 c5 c6 c7 c8 c9 c10 c11 c12 c13 f0 f1 f2 f3 f4 f5 f6 f7 f8 f9 f10 f11 f12 f13
    go_wp2_with (refine load_bk rfl 26 _ rfl (w.heap.size + 1) 0 [.int .i64 3, .int .i64 0, .int .i64 0, .int .i64 0, .int .i64 0, .int .i64 0, .int .i64 0, .int .i64 0, .int .i64 0, .int .i64 0, .int .i64 x1, .int .i64 x2, .int .i64 (x3 * 256 + x4), .slice none 0 0] [.int .i64 3, .int .i64 0, .int .i64 0, .int .i64 0, .int .i64 0, .int .i64 0, .int .i64 0, .int .i64 0, .int .i64 0, .int .i64 0, .int .i64 x1, .int .i64 x2, .int .i64 (x3 * 256 + x4), .slice none 0 0] rfl HZ.out.1 rfl _ Try.underlying26 rfl (by kernel_rfl) ?_)
    refine (roput_any 3 0 0 0 0 0 0 0 0 0 x1 x2 (x3 * 256 + x4) (.slice none 0 0) [] _ (Nums_nil _) (by first | (have := HV.out.2.2.2; simp; omega) | simp)).mono ?_
    rintro e w8 ⟨v8, rfl, ho8, hb8⟩
    have H8 : Hid (Bk w8 (w.heap.size + 1) [.int .i64 3, .int .i64 0, .int .i64 0, .int .i64 0, .int .i64 0, .int .i64 0, .int .i64 0, .int .i64 0, .int .i64 0, .int .i64 0, .int .i64 x1, .int .i64 x2, .int .i64 (x3 * 256 + x4), .slice none 0 0] ∧ Bk w8 w.heap.size [.int .i64 0, .int .i64 0, .int .i64 0, .int .i64 0, .int .i64 0, .int .i64 0, .int .i64 0, .int .i64 0, .int .i64 0, .int .i64 0, .int .i64 0, .int .i64 0, .int .i64 0, .slice none 0 0] ∧ Below w.heap.size w w8 ∧ Bys w8 v8 (bif omB ⟨3, 0, ⟨0, 0, 0, 0, 0, 0⟩, 0, 0, x1, x2, x3 * 256 + x4, []⟩ then obL ⟨3, 0, ⟨0, 0, 0, 0, 0, 0⟩, 0, 0, x1, x2, x3 * 256 + x4, []⟩ else [])) := ⟨HZ.out.1.later hb8, HZ.out.2.1.later hb8, HZ.out.2.2.trans (hb8.mono HZ.out.2.2.size), put_bys ho8⟩
    
    clear ho8 hb8
    cases hm : omB ⟨3, 0, ⟨0, 0, 0, 0, 0, 0⟩, 0, 0, x1, x2, x3 * 256 + x4, []⟩ with
    | false =>
      have HF : Hid (IsGet xs owZ false) := get_no HO.out hm
      clear hm
      go_wp2_with (refine store_bk rfl 26 _ _ rfl w.heap.size 0 [.int .i64 0, .int .i64 0, .int .i64 0, .int .i64 0, .int .i64 0, .int .i64 0, .int .i64 0, .int .i64 0, .int .i64 0, .int .i64 0, .int .i64 0, .int .i64 0, .int .i64 0, .slice none 0 0] [.int .i64 0, .int .i64 0, .int .i64 0, .int .i64 0, .int .i64 0, .int .i64 0, .int .i64 0, .int .i64 0, .int .i64 0, .int .i64 0, .int .i64 0, .int .i64 0, .int .i64 0, .slice none 0 0] [.int .i64 0, .int .i64 0, .int .i64 0, .int .i64 0, .int .i64 0, .int .i64 0, .int .i64 0, .int .i64 0, .int .i64 0, .int .i64 0, .int .i64 0, .int .i64 0, .int .i64 0, .slice none 0 0] rfl rfl 14 rfl H8.out.2.1 (Nat.le_refl _) rfl (by kernel_rfl) one14z ?_; intro w7 h1 h2 h3 h4)
      exact ret_ct (ty := 26) rfl w.heap.size [.int .i64 0, .int .i64 0, .int .i64 0, .int .i64 0, .int .i64 0, .int .i64 0, .int .i64 0, .int .i64 0, .int .i64 0, .int .i64 0, .int .i64 0, .int .i64 0, .int .i64 0, .slice none 0 0] (.bool false) rfl h1 _ Try.underlying26 rfl (by kernel_rfl) rfl rfl (GetE.none (HF.out) (h3 _ _ (Nat.le_refl _) H8.out.2.2.1))
    | true =>
      rw [hm] at H8
      have hX : (bif true then obL ⟨3, 0, ⟨0, 0, 0, 0, 0, 0⟩, 0, 0, x1, x2, x3 * 256 + x4, []⟩ else []) = obL ⟨3, 0, ⟨0, 0, 0, 0, 0, 0⟩, 0, 0, x1, x2, x3 * 256 + x4, []⟩ := rfl
      rw [hX] at H8
      have hh := (ob_head hm).2
      have hc1 := conv16 H8.out.2.2.2 (by intro e; rw [e] at hh; simp at hh)
      have hc2 := conv16 (HV.out.1 _ H8.out.2.2.1) (by intro e; have := HV.out.2.1; rw [e] at this; simp at this)
      by_cases ce : obL ⟨3, 0, ⟨0, 0, 0, 0, 0, 0⟩, 0, 0, x1, x2, x3 * 256 + x4, []⟩ = xs
      · have HF : Hid (IsGet xs ⟨3, 0, ⟨0, 0, 0, 0, 0, 0⟩, 0, 0, x1, x2, x3 * 256 + x4, []⟩ true) := get_is hm ce
        rw [ce] at hc1
        generalize strOfNums xs = st at *
        clear hm hX hh ce
        go_wp2_with (first
          | (refine store_bk rfl 26 _ _ rfl w.heap.size 0 [.int .i64 0, .int .i64 0, .int .i64 0, .int .i64 0, .int .i64 0, .int .i64 0, .int .i64 0, .int .i64 0, .int .i64 0, .int .i64 0, .int .i64 0, .int .i64 0, .int .i64 0, .slice none 0 0] [.int .i64 3, .int .i64 0, .int .i64 0, .int .i64 0, .int .i64 0, .int .i64 0, .int .i64 0, .int .i64 0, .int .i64 0, .int .i64 0, .int .i64 x1, .int .i64 x2, .int .i64 (x3 * 256 + x4), .slice none 0 0] [.int .i64 3, .int .i64 0, .int .i64 0, .int .i64 0, .int .i64 0, .int .i64 0, .int .i64 0, .int .i64 0, .int .i64 0, .int .i64 0, .int .i64 x1, .int .i64 x2, .int .i64 (x3 * 256 + x4), .slice none 0 0] rfl rfl 14 rfl H8.out.2.1 (Nat.le_refl _) rfl (by kernel_rfl) (one14L _ _ _ _ _ _ _ _ _ _ _ _ _) ?_; intro w7 h1 h2 h3 h4)
          | (refine load_bk rfl 26 _ rfl (w.heap.size + 1) 0 [.int .i64 3, .int .i64 0, .int .i64 0, .int .i64 0, .int .i64 0, .int .i64 0, .int .i64 0, .int .i64 0, .int .i64 0, .int .i64 0, .int .i64 x1, .int .i64 x2, .int .i64 (x3 * 256 + x4), .slice none 0 0] [.int .i64 3, .int .i64 0, .int .i64 0, .int .i64 0, .int .i64 0, .int .i64 0, .int .i64 0, .int .i64 0, .int .i64 0, .int .i64 0, .int .i64 x1, .int .i64 x2, .int .i64 (x3 * 256 + x4), .slice none 0 0] rfl H8.out.1 rfl _ Try.underlying26 rfl (by kernel_rfl) ?_))
        exact ret_ct (ty := 26) rfl w.heap.size [.int .i64 3, .int .i64 0, .int .i64 0, .int .i64 0, .int .i64 0, .int .i64 0, .int .i64 0, .int .i64 0, .int .i64 0, .int .i64 0, .int .i64 x1, .int .i64 x2, .int .i64 (x3 * 256 + x4), .slice none 0 0] (.bool true) rfl h1 _ Try.underlying26 rfl (by kernel_rfl) rfl rfl ⟨_, _, _, _, _, _, _, _, _, _, _, _, _, _, [], true, rfl, Nums_nil _, HF.out, h3 _ _ (Nat.le_refl _) H8.out.2.2.1⟩
      · have HF : Hid (IsGet xs owZ false) := get_ne HO.out ce
        have hs : ¬ (strOfNums (obL ⟨3, 0, ⟨0, 0, 0, 0, 0, 0⟩, 0, 0, x1, x2, x3 * 256 + x4, []⟩)).toList = (strOfNums xs).toList := fun e => ce (str_inj _ _ (ob_bytes hm) (bys_all (HV.out.1 _ (Below.refl _ _))) e)
        generalize strOfNums xs = st at *
        generalize strOfNums (obL ⟨3, 0, ⟨0, 0, 0, 0, 0, 0⟩, 0, 0, x1, x2, x3 * 256 + x4, []⟩) = s8 at *
        have hs1 : (s8.toList == st.toList) = false := beq_eq_false_iff_ne.2 hs
        clear hm hX hh ce
        go_wp2_with (refine store_bk rfl 26 _ _ rfl w.heap.size 0 [.int .i64 0, .int .i64 0, .int .i64 0, .int .i64 0, .int .i64 0, .int .i64 0, .int .i64 0, .int .i64 0, .int .i64 0, .int .i64 0, .int .i64 0, .int .i64 0, .int .i64 0, .slice none 0 0] [.int .i64 0, .int .i64 0, .int .i64 0, .int .i64 0, .int .i64 0, .int .i64 0, .int .i64 0, .int .i64 0, .int .i64 0, .int .i64 0, .int .i64 0, .int .i64 0, .int .i64 0, .slice none 0 0] [.int .i64 0, .int .i64 0, .int .i64 0, .int .i64 0, .int .i64 0, .int .i64 0, .int .i64 0, .int .i64 0, .int .i64 0, .int .i64 0, .int .i64 0, .int .i64 0, .int .i64 0, .slice none 0 0] rfl rfl 14 rfl H8.out.2.1 (Nat.le_refl _) rfl (by kernel_rfl) one14z ?_; intro w7 h1 h2 h3 h4)
        exact ret_ct (ty := 26) rfl w.heap.size [.int .i64 0, .int .i64 0, .int .i64 0, .int .i64 0, .int .i64 0, .int .i64 0, .int .i64 0, .int .i64 0, .int .i64 0, .int .i64 0, .int .i64 0, .int .i64 0, .int .i64 0, .slice none 0 0] (.bool false) rfl h1 _ Try.underlying26 rfl (by kernel_rfl) rfl rfl (GetE.none (HF.out) (h3 _ _ (Nat.le_refl _) H8.out.2.2.1))
end Go.Proofs.Yteklcolphbcjlaa
/- Walks of the document's own Get: Tick. -/
namespace Go.Proofs.Yteklcolphbcjlaa
open Go.RowKit

theorem drop2_take (xs : List Int) {j : Nat} (h2 : 2 ≤ j) (h : j < xs.length) : (xs.drop 2).take (j + 1 - 2) = (xs.drop 2).take (j - 2) ++ [xs.getD j 0] := by
  have e : j + 1 - 2 = (j - 2) + 1 := by omega
  have e2 : 2 + (j - 2) = j := by omega
  rw [e, List.take_add_one, List.getElem?_drop, e2, List.getD_eq_getElem?_getD, List.getElem?_eq_getElem h]
  rfl
set_option maxHeartbeats 8000000 in
set_option maxRecDepth 100000 in
theorem roget16_4 (xs : List Int) (v : Value) (w : World) (h : Bys w v xs) (hl : 0 < xs.length) (hl20 : xs.length ≤ 20) (h0 : xs.getD 0 0 = 4)  :
    Calls Try.prog 12 #[v] w (GetE xs w) := by
  have HV : Hid ((∀ y, Below w.heap.size w y → Bys y v xs) ∧ 0 < xs.length ∧ xs.getD 0 0 = 4 ∧ xs.length ≤ 20) := ⟨fun y hy => h.later hy, hl, h0, hl20⟩
  obtain ⟨a, cap, rfl, h1, h2, h3, h4, h5⟩ := h
  obtain ⟨bb, oo, rfl, h6⟩ := h5 (by intro e; rw [e] at hl; simp at hl)
  have HD : Hid (∀ i, i < xs.length → 0 ≤ xs.getD i 0 ∧ xs.getD i 0 ≤ 255) := h4
  have HB : Hid (Bk ((w.alloc (.cells #[.int .i64 0, .int .i64 0, .int .i64 0, .int .i64 0, .int .i64 0, .int .i64 0, .int .i64 0, .int .i64 0, .int .i64 0, .int .i64 0, .int .i64 0, .int .i64 0, .int .i64 0, .slice none 0 0] 26)).alloc (.cells #[.int .i64 4, .int .i64 0, .int .i64 0, .int .i64 0, .int .i64 0, .int .i64 0, .int .i64 0, .int .i64 0, .int .i64 0, .int .i64 0, .int .i64 0, .int .i64 0, .int .i64 0, .slice none 0 0] 26)) w.heap.size [.int .i64 0, .int .i64 0, .int .i64 0, .int .i64 0, .int .i64 0, .int .i64 0, .int .i64 0, .int .i64 0, .int .i64 0, .int .i64 0, .int .i64 0, .int .i64 0, .int .i64 0, .slice none 0 0] ∧ Bk ((w.alloc (.cells #[.int .i64 0, .int .i64 0, .int .i64 0, .int .i64 0, .int .i64 0, .int .i64 0, .int .i64 0, .int .i64 0, .int .i64 0, .int .i64 0, .int .i64 0, .int .i64 0, .int .i64 0, .slice none 0 0] 26)).alloc (.cells #[.int .i64 4, .int .i64 0, .int .i64 0, .int .i64 0, .int .i64 0, .int .i64 0, .int .i64 0, .int .i64 0, .int .i64 0, .int .i64 0, .int .i64 0, .int .i64 0, .int .i64 0, .slice none 0 0] 26)) (w.heap.size + 1) [.int .i64 4, .int .i64 0, .int .i64 0, .int .i64 0, .int .i64 0, .int .i64 0, .int .i64 0, .int .i64 0, .int .i64 0, .int .i64 0, .int .i64 0, .int .i64 0, .int .i64 0, .slice none 0 0] ∧ Below w.heap.size w ((w.alloc (.cells #[.int .i64 0, .int .i64 0, .int .i64 0, .int .i64 0, .int .i64 0, .int .i64 0, .int .i64 0, .int .i64 0, .int .i64 0, .int .i64 0, .int .i64 0, .int .i64 0, .int .i64 0, .slice none 0 0] 26)).alloc (.cells #[.int .i64 4, .int .i64 0, .int .i64 0, .int .i64 0, .int .i64 0, .int .i64 0, .int .i64 0, .int .i64 0, .int .i64 0, .int .i64 0, .int .i64 0, .int .i64 0, .int .i64 0, .slice none 0 0] 26)) ∧ Below w.heap.size w (w.alloc (.cells #[.int .i64 0, .int .i64 0, .int .i64 0, .int .i64 0, .int .i64 0, .int .i64 0, .int .i64 0, .int .i64 0, .int .i64 0, .int .i64 0, .int .i64 0, .int .i64 0, .int .i64 0, .slice none 0 0] 26)) ∧ ((w.alloc (.cells #[.int .i64 0, .int .i64 0, .int .i64 0, .int .i64 0, .int .i64 0, .int .i64 0, .int .i64 0, .int .i64 0, .int .i64 0, .int .i64 0, .int .i64 0, .int .i64 0, .int .i64 0, .slice none 0 0] 26)).alloc (.cells #[.int .i64 4, .int .i64 0, .int .i64 0, .int .i64 0, .int .i64 0, .int .i64 0, .int .i64 0, .int .i64 0, .int .i64 0, .int .i64 0, .int .i64 0, .int .i64 0, .int .i64 0, .slice none 0 0] 26)).heap.size = w.heap.size + 2) := ⟨(Bk.new w _ _).later (below_b1 _ _), (by have := Bk.new (w.alloc (.cells #[.int .i64 0, .int .i64 0, .int .i64 0, .int .i64 0, .int .i64 0, .int .i64 0, .int .i64 0, .int .i64 0, .int .i64 0, .int .i64 0, .int .i64 0, .int .i64 0, .int .i64 0, .slice none 0 0] 26)) [.int .i64 4, .int .i64 0, .int .i64 0, .int .i64 0, .int .i64 0, .int .i64 0, .int .i64 0, .int .i64 0, .int .i64 0, .int .i64 0, .int .i64 0, .int .i64 0, .int .i64 0, .slice none 0 0] 26; simp only [World.size_alloc] at this; exact this), below_b2 _ _ _, below_b1 _ _, by simp⟩
  have e0 := cell_later HB.out.2.2.2.1 (h6 0 hl)
  rw [Nat.add_zero, h0] at e0
  have bk := h4 0 hl
  rw [h0] at bk
  have wk : IntKind.i64.wrap 4 = 4 := by rw [IntKind.wrap_i64]; omega
  have c0' : ((xs.length : Int) == 0) = false := beq_eq_false_iff_ne.2 (by omega)
  have c20 : ¬ (20 : Int) < xs.length := by omega
  have hln : (0 : Int) < xs.length := by omega
  have h1c : (1 : Int) ≤ cap := by omega
  have h1d : (1 : Int) ≤ xs.length := by omega
  have HX : Hid (xs.getD 1 0 = xs.getD 1 0) := rfl
  obtain ⟨x1, hx1⟩ : ∃ x, xs.getD 1 0 = x := ⟨_, rfl⟩
  obtain ⟨x2, hx2⟩ : ∃ x, xs.getD 2 0 = x := ⟨_, rfl⟩
  obtain ⟨x3, hx3⟩ : ∃ x, xs.getD 3 0 = x := ⟨_, rfl⟩
  obtain ⟨x4, hx4⟩ : ∃ x, xs.getD 4 0 = x := ⟨_, rfl⟩
  obtain ⟨x5, hx5⟩ : ∃ x, xs.getD 5 0 = x := ⟨_, rfl⟩
  obtain ⟨x6, hx6⟩ : ∃ x, xs.getD 6 0 = x := ⟨_, rfl⟩
  have y1 := bd_all HD.out 1
  have y2 := bd_all HD.out 2
  have y3 := bd_all HD.out 3
  have y4 := bd_all HD.out 4
  have y5 := bd_all HD.out 5
  have y6 := bd_all HD.out 6
  rw [hx1] at y1
  rw [hx2] at y2
  rw [hx3] at y3
  rw [hx4] at y4
  rw [hx5] at y5
  rw [hx6] at y6
  have u1 : IntKind.i64.wrap x1 = x1 := by rw [IntKind.wrap_i64]; omega
  have u2 : IntKind.i64.wrap x2 = x2 := by rw [IntKind.wrap_i64]; omega
  have u3 : IntKind.i64.wrap x3 = x3 := by rw [IntKind.wrap_i64]; omega
  have u4 : IntKind.i64.wrap x4 = x4 := by rw [IntKind.wrap_i64]; omega
  have u5 : IntKind.i64.wrap x5 = x5 := by rw [IntKind.wrap_i64]; omega
  have u6 : IntKind.i64.wrap x6 = x6 := by rw [IntKind.wrap_i64]; omega
  have p1 : IntKind.i64.wrap (x1 * 256) = x1 * 256 := by rw [IntKind.wrap_i64]; omega
  have p2 : IntKind.i64.wrap (x1 * 256 + x2) = x1 * 256 + x2 := by rw [IntKind.wrap_i64]; omega
  have p3 : IntKind.i64.wrap (x3 * 256) = x3 * 256 := by rw [IntKind.wrap_i64]; omega
  have p4 : IntKind.i64.wrap (x3 * 256 + x4) = x3 * 256 + x4 := by rw [IntKind.wrap_i64]; omega
  have HXS : Hid (xs.getD 1 0 = x1 ∧ xs.getD 2 0 = x2 ∧ xs.getD 3 0 = x3 ∧ xs.getD 4 0 = x4 ∧ xs.getD 5 0 = x5 ∧ xs.getD 6 0 = x6) := ⟨hx1, hx2, hx3, hx4, hx5, hx6⟩
  have HO : Hid (odG xs = ⟨4, 0, ⟨0, 0, 0, 0, 0, 0⟩, 0, 0, 0, 0, 0, xs.drop 2⟩) := odG_4 h0
  clear h3 h4 h5 h6 h0 hx1 hx2 hx3 hx4 hx5 hx6 y1 y2 y3 y4 y5 y6 HX
  rcases Nat.lt_or_ge 1 cap with hc | hc
  case' inl =>
    have hc' : (1 : Int) < cap := by omega
    have HRV : Hid (∀ y, Below w.heap.size w y → Bys y (.slice (some ⟨bb, oo + 1, none⟩) (xs.length - 1) (cap - 1)) (xs.drop 1)) := fun y hy => (HV.out.1 y hy).rest1 (S := 1) HV.out.2.1 (oo + 1) (fun _ => rfl)
    go_enter Try.func12, Try.ntmps12
    go_upto_region 4 with fail
    generalize ((w.alloc (.cells #[.int .i64 0, .int .i64 0, .int .i64 0, .int .i64 0, .int .i64 0, .int .i64 0, .int .i64 0, .int .i64 0, .int .i64 0, .int .i64 0, .int .i64 0, .int .i64 0, .int .i64 0, .slice none 0 0] 26)).alloc (.cells #[.int .i64 4, .int .i64 0, .int .i64 0, .int .i64 0, .int .i64 0, .int .i64 0, .int .i64 0, .int .i64 0, .int .i64 0, .int .i64 0, .int .i64 0, .int .i64 0, .int .i64 0, .slice none 0 0] 26)) = W at *
    have hWb : w.heap.size + 2 ≤ W.heap.size := by have := HB.out.2.2.2.2; omega
    go_wp2_with (first
      | (at_builtin; have h27 := ho25; refine append_ys rfl _ _ rfl (w.heap.size + 2) _ _ _ [0, 0, 0, 0, 0, 0] rfl (h27.later (below_b1 _ (.cells #[.int .u8 0, .int .u8 0, .int .u8 0, .int .u8 0, .int .u8 0, .int .u8 0] 5))) rfl (byL 0 (owy_six _ 0 0 0 0 0 0 0 (Nat.zero_le _)) (fun x hx => by simp at hx; omega)) (by have := HV.out.2.2.2; simp; omega) (by have := hb25.size; simp; omega) ?_; intro v27 w27 ho27 hb27; refine Hid.out ?_)
      | (at_builtin; refine append_ys rfl _ _ rfl (w.heap.size + 2) (.slice none 0 0) _ [] (xs.drop 1) rfl (OwY.nil _ _) rfl (HRV.out _ HB.out.2.2.1) (by have := HV.out.2.2.2; simp; omega) hWb ?_; intro v25 w25 ho25 hb25))
    obtain ⟨g, cg, m, ev, hm6, hg, hbg, hpk, hpz, hbb⟩ := post27 HB.out.1 HB.out.2.1 HB.out.2.2.1 HB.out.2.2.2.2 hb25 hb27 ho27
    subst ev
    have b0 : (0 : Int) < m := by omega
    have b00 : 0 < m := by omega
    have b01 : 1 < m := by omega
    have b02 : 2 < m := by omega
    have b03 : 3 < m := by omega
    have b04 : 4 < m := by omega
    have b05 : 5 < m := by omega
    have b1 : (1 : Int) < m := by omega
    have b2 : (2 : Int) < m := by omega
    have b3 : (3 : Int) < m := by omega
    have b4 : (4 : Int) < m := by omega
    have b5 : (5 : Int) < m := by omega
    have HG : Hid (Bk w27 g (bv8 (padB xs)) ∧ Bk w27 (w.heap.size + 1) [.int .i64 4, .int .i64 0, .int .i64 0, .int .i64 0, .int .i64 0, .int .i64 0, .int .i64 0, .int .i64 0, .int .i64 0, .int .i64 0, .int .i64 0, .int .i64 0, .int .i64 0, .slice none 0 0] ∧ Bk w27 w.heap.size [.int .i64 0, .int .i64 0, .int .i64 0, .int .i64 0, .int .i64 0, .int .i64 0, .int .i64 0, .int .i64 0, .int .i64 0, .int .i64 0, .int .i64 0, .int .i64 0, .int .i64 0, .slice none 0 0] ∧ Below w.heap.size w w27 ∧ w.heap.size + 2 ≤ g) := ⟨hbg, hpk, hpz, hbb, hg⟩
    have n0 : w27.cell? ⟨g, 0, none⟩ = some (.int .u8 x1) := by rw [← HXS.out.1]; exact hbg.cell (padB_at (i := 0) (by decide))
    have n1 : w27.cell? ⟨g, 1, none⟩ = some (.int .u8 x2) := by rw [← HXS.out.2.1]; exact hbg.cell (padB_at (i := 1) (by decide))
    have n2 : w27.cell? ⟨g, 2, none⟩ = some (.int .u8 x3) := by rw [← HXS.out.2.2.1]; exact hbg.cell (padB_at (i := 2) (by decide))
    have n3 : w27.cell? ⟨g, 3, none⟩ = some (.int .u8 x4) := by rw [← HXS.out.2.2.2.1]; exact hbg.cell (padB_at (i := 3) (by decide))
    have n4 : w27.cell? ⟨g, 4, none⟩ = some (.int .u8 x5) := by rw [← HXS.out.2.2.2.2.1]; exact hbg.cell (padB_at (i := 4) (by decide))
    have n5 : w27.cell? ⟨g, 5, none⟩ = some (.int .u8 x6) := by rw [← HXS.out.2.2.2.2.2]; exact hbg.cell (padB_at (i := 5) (by decide))
    obtain ⟨c0, c1, c2, c3, c4, c5, c6, c7, c8, c9, c10, c11, c12, c13⟩ := HG.out.2.1.c14
    obtain ⟨f0, f1, f2, f3, f4, f5, f6, f7, f8, f9, f10, f11, f12, f13⟩ := HG.out.2.1.f14
    have hgn : g ≠ w.heap.size + 1 := by omega
    clear ho27 hb27 ho25 hb25 hbg hpk hpz hbb hg hWb
    unfold Hid
    skip
  case' inr =>
    obtain rfl : cap = 1 := by omega
    have hl1 : xs.length - 1 = 0 := by omega
    have HRV : Hid (∀ y, Below w.heap.size w y → Bys y (.slice (some ⟨bb, oo, none⟩) 0 0) (xs.drop 1)) := fun y hy => by
      have := (HV.out.1 y hy).rest1 (S := 1) HV.out.2.1 oo (fun h => absurd h (by omega))
      rw [hl1] at this
      exact this
    go_enter Try.func12, Try.ntmps12
    go_upto_region 4 with fail
    generalize ((w.alloc (.cells #[.int .i64 0, .int .i64 0, .int .i64 0, .int .i64 0, .int .i64 0, .int .i64 0, .int .i64 0, .int .i64 0, .int .i64 0, .int .i64 0, .int .i64 0, .int .i64 0, .int .i64 0, .slice none 0 0] 26)).alloc (.cells #[.int .i64 4, .int .i64 0, .int .i64 0, .int .i64 0, .int .i64 0, .int .i64 0, .int .i64 0, .int .i64 0, .int .i64 0, .int .i64 0, .int .i64 0, .int .i64 0, .int .i64 0, .slice none 0 0] 26)) = W at *
    have hWb : w.heap.size + 2 ≤ W.heap.size := by have := HB.out.2.2.2.2; omega
    go_wp2_with (first
      | (at_builtin; have h27 := ho25; refine append_ys rfl _ _ rfl (w.heap.size + 2) _ _ _ [0, 0, 0, 0, 0, 0] rfl (h27.later (below_b1 _ (.cells #[.int .u8 0, .int .u8 0, .int .u8 0, .int .u8 0, .int .u8 0, .int .u8 0] 5))) rfl (byL 0 (owy_six _ 0 0 0 0 0 0 0 (Nat.zero_le _)) (fun x hx => by simp at hx; omega)) (by have := HV.out.2.2.2; simp; omega) (by have := hb25.size; simp; omega) ?_; intro v27 w27 ho27 hb27; refine Hid.out ?_)
      | (at_builtin; refine append_ys rfl _ _ rfl (w.heap.size + 2) (.slice none 0 0) _ [] (xs.drop 1) rfl (OwY.nil _ _) rfl (HRV.out _ HB.out.2.2.1) (by have := HV.out.2.2.2; simp; omega) hWb ?_; intro v25 w25 ho25 hb25))
    obtain ⟨g, cg, m, ev, hm6, hg, hbg, hpk, hpz, hbb⟩ := post27 HB.out.1 HB.out.2.1 HB.out.2.2.1 HB.out.2.2.2.2 hb25 hb27 ho27
    subst ev
    have b0 : (0 : Int) < m := by omega
    have b00 : 0 < m := by omega
    have b01 : 1 < m := by omega
    have b02 : 2 < m := by omega
    have b03 : 3 < m := by omega
    have b04 : 4 < m := by omega
    have b05 : 5 < m := by omega
    have b1 : (1 : Int) < m := by omega
    have b2 : (2 : Int) < m := by omega
    have b3 : (3 : Int) < m := by omega
    have b4 : (4 : Int) < m := by omega
    have b5 : (5 : Int) < m := by omega
    have HG : Hid (Bk w27 g (bv8 (padB xs)) ∧ Bk w27 (w.heap.size + 1) [.int .i64 4, .int .i64 0, .int .i64 0, .int .i64 0, .int .i64 0, .int .i64 0, .int .i64 0, .int .i64 0, .int .i64 0, .int .i64 0, .int .i64 0, .int .i64 0, .int .i64 0, .slice none 0 0] ∧ Bk w27 w.heap.size [.int .i64 0, .int .i64 0, .int .i64 0, .int .i64 0, .int .i64 0, .int .i64 0, .int .i64 0, .int .i64 0, .int .i64 0, .int .i64 0, .int .i64 0, .int .i64 0, .int .i64 0, .slice none 0 0] ∧ Below w.heap.size w w27 ∧ w.heap.size + 2 ≤ g) := ⟨hbg, hpk, hpz, hbb, hg⟩
    have n0 : w27.cell? ⟨g, 0, none⟩ = some (.int .u8 x1) := by rw [← HXS.out.1]; exact hbg.cell (padB_at (i := 0) (by decide))
    have n1 : w27.cell? ⟨g, 1, none⟩ = some (.int .u8 x2) := by rw [← HXS.out.2.1]; exact hbg.cell (padB_at (i := 1) (by decide))
    have n2 : w27.cell? ⟨g, 2, none⟩ = some (.int .u8 x3) := by rw [← HXS.out.2.2.1]; exact hbg.cell (padB_at (i := 2) (by decide))
    have n3 : w27.cell? ⟨g, 3, none⟩ = some (.int .u8 x4) := by rw [← HXS.out.2.2.2.1]; exact hbg.cell (padB_at (i := 3) (by decide))
    have n4 : w27.cell? ⟨g, 4, none⟩ = some (.int .u8 x5) := by rw [← HXS.out.2.2.2.2.1]; exact hbg.cell (padB_at (i := 4) (by decide))
    have n5 : w27.cell? ⟨g, 5, none⟩ = some (.int .u8 x6) := by rw [← HXS.out.2.2.2.2.2]; exact hbg.cell (padB_at (i := 5) (by decide))
    obtain ⟨c0, c1, c2, c3, c4, c5, c6, c7, c8, c9, c10, c11, c12, c13⟩ := HG.out.2.1.c14
    obtain ⟨f0, f1, f2, f3, f4, f5, f6, f7, f8, f9, f10, f11, f12, f13⟩ := HG.out.2.1.f14
    have hgn : g ≠ w.heap.size + 1 := by omega
    clear ho27 hb27 ho25 hb25 hbg hpk hpz hbb hg hWb
    unfold Hid
  all_goals
    have HS : Hid (∃ dv, OwN w27 (w.heap.size + 2) dv ((xs.drop 2).take 0) ∧ Bk w27 (w.heap.size + 1) [.int .i64 4, .int .i64 0, .int .i64 0, .int .i64 0, .int .i64 0, .int .i64 0, .int .i64 0, .int .i64 0, .int .i64 0, .int .i64 0, .int .i64 0, .int .i64 0, .int .i64 0, dv] ∧ Bk w27 w.heap.size [.int .i64 0, .int .i64 0, .int .i64 0, .int .i64 0, .int .i64 0, .int .i64 0, .int .i64 0, .int .i64 0, .int .i64 0, .int .i64 0, .int .i64 0, .int .i64 0, .int .i64 0, .slice none 0 0] ∧ Below w.heap.size w w27) := ⟨.slice none 0 0, World.ownsRow_nil _ _ _ _, HG.out.2.1, HG.out.2.2.1, HG.out.2.2.2.1⟩
    have HBB : Hid (bb < w.heap.size) := by
      have hx := HV.out.1 _ (Below.refl _ _)
      obtain ⟨a9, cap9, e9, _, _, _, _, g5⟩ := hx
      cases e9
      obtain ⟨b9, o9, e9, g6⟩ := g5 (by intro e; have := HV.out.2.1; rw [e] at this; simp at this)
      cases e9
      exact World.block_lt_of_cell? _ _ (g6 0 HV.out.2.1)
    have hsz27 : Hid (w.heap.size + 2 ≤ w27.heap.size) := by
      have h1 := HG.out.2.2.2.2
      have h2 : g < w27.heap.size := World.block_lt_of_cell? _ _ n0
      show w.heap.size + 2 ≤ w27.heap.size
      omega
    clear HG n0 n1 n2 n3 n4 n5 c1 c2 c3 c4 c5 c6 c7 c8 c9 c10 c11 c12 c13 f0 f1 f2 f3 f4 f5 f6 f7 f8 f9 f10 f11 f12 f13
    go_wp2_with fail
    go_loopw [6] (fun iv wr => ∃ i : Nat, iv = .int .i64 i ∧ 2 ≤ i ∧ (i ≤ xs.length ∨ i = 2) ∧ Hid (w27.heap.size ≤ wr.heap.size ∧ ∃ dv, OwN wr (w.heap.size + 2) dv ((xs.drop 2).take (i - 2)) ∧ Bk wr (w.heap.size + 1) [.int .i64 4, .int .i64 0, .int .i64 0, .int .i64 0, .int .i64 0, .int .i64 0, .int .i64 0, .int .i64 0, .int .i64 0, .int .i64 0, .int .i64 0, .int .i64 0, .int .i64 0, dv] ∧ Bk wr w.heap.size [.int .i64 0, .int .i64 0, .int .i64 0, .int .i64 0, .int .i64 0, .int .i64 0, .int .i64 0, .int .i64 0, .int .i64 0, .int .i64 0, .int .i64 0, .int .i64 0, .int .i64 0, .slice none 0 0] ∧ Below w.heap.size w wr)) (fun iv _ => (xs.length - intOf iv).toNat)
    case atStart => exact ⟨2, by go_num, Nat.le_refl _, .inr rfl, Nat.le_refl _, HS.out⟩
    case round =>
      obtain ⟨i, rfl, hi2, hi, HR⟩ := hrel
      clear c0
      by_cases hlt : i < xs.length
      · have hlt' : (i : Int) < xs.length := by omega
        have hl20' : (i : Int) < 20 := by omega
        have i0 : (0 : Int) ≤ (i : Int) := by omega
        obtain ⟨hsz, dv, ho, hk, hzr, hbw⟩ := HR.out
        have hsz2 := hsz27.out
        have cx : wr.cell? ⟨bb, oo + i, none⟩ = some (.int .u8 (xs.getD i 0)) := by
          obtain ⟨a9, cap9, e9, _, _, _, _, g5⟩ := HV.out.1 _ hbw
          cases e9
          obtain ⟨b9, o9, e9, g6⟩ := g5 (by intro e; have := HV.out.2.1; rw [e] at this; simp at this)
          cases e9
          exact g6 i hlt
        have bx := HD.out i hlt
        have c13 : wr.cell? ⟨w.heap.size + 1, 13, none⟩ = some dv := hk.cell rfl
        have f13 : wr.frozen? ⟨w.heap.size + 1, 13, none⟩ = false := hk.frz (by simp)
        have HT := drop2_take xs hi2 hlt
        have HT2 : Hid ((xs.drop 2).take (i + 1 - 2) = (xs.drop 2).take (i - 2) ++ [xs.getD i 0] ∧ ((xs.drop 2).take (i - 2)).length ≤ 1000) := ⟨HT, by simp; omega⟩
        clear HT
        generalize xs.getD i 0 = x at *
        have wx : IntKind.i64.wrap x = x := by rw [IntKind.wrap_i64]; omega
        have hbr : w.heap.size + 1 < wr.heap.size := by omega
        have hbbr : bb < wr.heap.size := by have := HBB.out; omega
        have HA : Hid (OwN (wr.alloc (.cells #[.int .i64 x] 3)).drew (w.heap.size + 2) dv ((xs.drop 2).take (i - 2)) ∧ (wr.alloc (.cells #[.int .i64 x] 3)).drew.cell? ⟨wr.heap.size, 0, none⟩ = some (.int .i64 x) ∧ w.heap.size + 2 ≤ (wr.alloc (.cells #[.int .i64 x] 3)).drew.heap.size ∧ Below (w.heap.size + 2) wr (wr.alloc (.cells #[.int .i64 x] 3)).drew) := ⟨(OwN.later ho (below_b1 _ _)).later (Below.refl _ _).drew, (Bk.new wr [.int .i64 x] 3).cell (i := 0) rfl, (by show w.heap.size + 2 ≤ (wr.alloc _).heap.size; simp; omega), (((Below.refl _ _).alloc (by omega) _)).drew⟩
        have HK : Hid (Bk wr (w.heap.size + 1) ([.int .i64 4, .int .i64 0, .int .i64 0, .int .i64 0, .int .i64 0, .int .i64 0, .int .i64 0, .int .i64 0, .int .i64 0, .int .i64 0, .int .i64 0, .int .i64 0, .int .i64 0, dv]) ∧ Bk wr w.heap.size [.int .i64 0, .int .i64 0, .int .i64 0, .int .i64 0, .int .i64 0, .int .i64 0, .int .i64 0, .int .i64 0, .int .i64 0, .int .i64 0, .int .i64 0, .int .i64 0, .int .i64 0, .slice none 0 0] ∧ Below w.heap.size w wr ∧ w27.heap.size ≤ wr.heap.size) := ⟨hk, hzr, hbw, hsz⟩
        clear ho hk hzr hbw bx
        go_wp2_with fail
        go_region_law (refine step_app1 (by rfl) _ _ (by rfl) (w.heap.size + 2) dv ((xs.drop 2).take (i - 2)) wr.heap.size x (by rfl) HA.out.1 (by rfl) HA.out.2.1 HT2.out.2 HA.out.2.2.1 ?_; intro v7 w7 ho7 hb7; obtain ⟨a7, z7, k7, rfl⟩ := OwN.is ho7; have q13 := (HK.out.1.keep (HA.out.2.2.2.trans hb7) (Nat.lt_succ_self _)).cell (i := 13) rfl; have qf := (HK.out.1.keep (HA.out.2.2.2.trans hb7) (Nat.lt_succ_self _)).frz (i := 13) (by simp))
        all_goals
          have hb8 := HA.out.2.2.2.trans hb7
          have HN : Hid (w27.heap.size ≤ (w7.setCell ⟨w.heap.size + 1, 13, none⟩ (.slice a7 z7 k7)).heap.size ∧ ∃ dv, OwN (w7.setCell ⟨w.heap.size + 1, 13, none⟩ (.slice a7 z7 k7)) (w.heap.size + 2) dv ((xs.drop 2).take (i + 1 - 2)) ∧ Bk (w7.setCell ⟨w.heap.size + 1, 13, none⟩ (.slice a7 z7 k7)) (w.heap.size + 1) ([.int .i64 4, .int .i64 0, .int .i64 0, .int .i64 0, .int .i64 0, .int .i64 0, .int .i64 0, .int .i64 0, .int .i64 0, .int .i64 0, .int .i64 0, .int .i64 0, .int .i64 0, dv]) ∧ Bk (w7.setCell ⟨w.heap.size + 1, 13, none⟩ (.slice a7 z7 k7)) w.heap.size [.int .i64 0, .int .i64 0, .int .i64 0, .int .i64 0, .int .i64 0, .int .i64 0, .int .i64 0, .int .i64 0, .int .i64 0, .int .i64 0, .int .i64 0, .int .i64 0, .int .i64 0, .slice none 0 0] ∧ Below w.heap.size w (w7.setCell ⟨w.heap.size + 1, 13, none⟩ (.slice a7 z7 k7))) := by
            refine ⟨by have h1 := hb8.size; have h2 := HK.out.2.2.2; simp; omega, .slice a7 z7 k7, ?_, (HK.out.1.keep hb8 (Nat.lt_succ_self _)).set 13 _, (HK.out.2.1.keep hb8 (by omega)).other (by omega) _, (HK.out.2.2.1.trans (hb8.mono (by omega))).setCell (p := ⟨w.heap.size + 1, 13, none⟩) (by show w.heap.size ≤ w.heap.size + 1; omega) _⟩
            rw [HT2.out.1]
            exact ho7.set (Nat.lt_succ_self _) _
          clear ho7 hb7 hb8 q13 qf
          go_wp2_with fail
          go_roundw
          case rel => exact ⟨i + 1, by go_num, by omega, .inl (by omega), HN.out⟩
          case measure => simp [intOf]; omega
      · have hlt' : ¬ (i : Int) < xs.length := by omega
        obtain ⟨_, dv, ho, hk, hzr, hbw⟩ := HR.out
        have hfull : (xs.drop 2).take (i - 2) = xs.drop 2 := List.take_of_length_le (by rw [List.length_drop]; omega)
        rw [hfull] at ho
        obtain ⟨az, zz, cz, rfl⟩ := OwN.is ho
        have HZ : Hid (Bk wr (w.heap.size + 1) [.int .i64 4, .int .i64 0, .int .i64 0, .int .i64 0, .int .i64 0, .int .i64 0, .int .i64 0, .int .i64 0, .int .i64 0, .int .i64 0, .int .i64 0, .int .i64 0, .int .i64 0, .slice az zz cz] ∧ Bk wr w.heap.size [.int .i64 0, .int .i64 0, .int .i64 0, .int .i64 0, .int .i64 0, .int .i64 0, .int .i64 0, .int .i64 0, .int .i64 0, .int .i64 0, .int .i64 0, .int .i64 0, .int .i64 0, .slice none 0 0] ∧ Below w.heap.size w wr) := ⟨hk, hzr, hbw⟩
        have HU : Hid (NuB wr (w.heap.size + 1) (.slice az zz cz) (xs.drop 2)) := NuB.own ho (Nat.le_succ _)
        clear ho hk hzr hbw HR hfull
        go_wp2_with (refine load_bk rfl 26 _ rfl (w.heap.size + 1) 0 [.int .i64 4, .int .i64 0, .int .i64 0, .int .i64 0, .int .i64 0, .int .i64 0, .int .i64 0, .int .i64 0, .int .i64 0, .int .i64 0, .int .i64 0, .int .i64 0, .int .i64 0, .slice az zz cz] [.int .i64 4, .int .i64 0, .int .i64 0, .int .i64 0, .int .i64 0, .int .i64 0, .int .i64 0, .int .i64 0, .int .i64 0, .int .i64 0, .int .i64 0, .int .i64 0, .int .i64 0, .slice az zz cz] rfl HZ.out.1 rfl _ Try.underlying26 rfl (by kernel_rfl) ?_)
        refine (roput_any 4 0 0 0 0 0 0 0 0 0 0 0 0 (.slice az zz cz) (xs.drop 2) _ HU.out.nums (by first | (have := HV.out.2.2.2; simp; omega) | simp)).mono ?_
        rintro e w8 ⟨v8, rfl, ho8, hb8⟩
        have H8 : Hid (Bk w8 (w.heap.size + 1) [.int .i64 4, .int .i64 0, .int .i64 0, .int .i64 0, .int .i64 0, .int .i64 0, .int .i64 0, .int .i64 0, .int .i64 0, .int .i64 0, .int .i64 0, .int .i64 0, .int .i64 0, .slice az zz cz] ∧ Bk w8 w.heap.size [.int .i64 0, .int .i64 0, .int .i64 0, .int .i64 0, .int .i64 0, .int .i64 0, .int .i64 0, .int .i64 0, .int .i64 0, .int .i64 0, .int .i64 0, .int .i64 0, .int .i64 0, .slice none 0 0] ∧ Below w.heap.size w w8 ∧ Bys w8 v8 (bif omB ⟨4, 0, ⟨0, 0, 0, 0, 0, 0⟩, 0, 0, 0, 0, 0, xs.drop 2⟩ then obL ⟨4, 0, ⟨0, 0, 0, 0, 0, 0⟩, 0, 0, 0, 0, 0, xs.drop 2⟩ else [])) := ⟨HZ.out.1.later hb8, HZ.out.2.1.later hb8, HZ.out.2.2.trans (hb8.mono HZ.out.2.2.size), put_bys ho8⟩
        have HU8 : Hid (NuB w8 (w.heap.size + 1) (.slice az zz cz) (xs.drop 2)) := HU.out.later hb8
        clear ho8 hb8
        cases hm : omB ⟨4, 0, ⟨0, 0, 0, 0, 0, 0⟩, 0, 0, 0, 0, 0, xs.drop 2⟩ with
        | false =>
          have HF : Hid (IsGet xs owZ false) := get_no HO.out hm
          clear hm
          go_wp2_with (refine store_bk rfl 26 _ _ rfl w.heap.size 0 [.int .i64 0, .int .i64 0, .int .i64 0, .int .i64 0, .int .i64 0, .int .i64 0, .int .i64 0, .int .i64 0, .int .i64 0, .int .i64 0, .int .i64 0, .int .i64 0, .int .i64 0, .slice none 0 0] [.int .i64 0, .int .i64 0, .int .i64 0, .int .i64 0, .int .i64 0, .int .i64 0, .int .i64 0, .int .i64 0, .int .i64 0, .int .i64 0, .int .i64 0, .int .i64 0, .int .i64 0, .slice none 0 0] [.int .i64 0, .int .i64 0, .int .i64 0, .int .i64 0, .int .i64 0, .int .i64 0, .int .i64 0, .int .i64 0, .int .i64 0, .int .i64 0, .int .i64 0, .int .i64 0, .int .i64 0, .slice none 0 0] rfl rfl 14 rfl H8.out.2.1 (Nat.le_refl _) rfl (by kernel_rfl) one14z ?_; intro w7 h1 h2 h3 h4)
          exact ret_ct (ty := 26) rfl w.heap.size [.int .i64 0, .int .i64 0, .int .i64 0, .int .i64 0, .int .i64 0, .int .i64 0, .int .i64 0, .int .i64 0, .int .i64 0, .int .i64 0, .int .i64 0, .int .i64 0, .int .i64 0, .slice none 0 0] (.bool false) rfl h1 _ Try.underlying26 rfl (by kernel_rfl) rfl rfl (GetE.none (HF.out) (h3 _ _ (Nat.le_refl _) H8.out.2.2.1))
        | true =>
          rw [hm] at H8
          have hX : (bif true then obL ⟨4, 0, ⟨0, 0, 0, 0, 0, 0⟩, 0, 0, 0, 0, 0, xs.drop 2⟩ else []) = obL ⟨4, 0, ⟨0, 0, 0, 0, 0, 0⟩, 0, 0, 0, 0, 0, xs.drop 2⟩ := rfl
          rw [hX] at H8
          have hh := (ob_head hm).2
          have hc1 := conv16 H8.out.2.2.2 (by intro e; rw [e] at hh; simp at hh)
          have hc2 := conv16 (HV.out.1 _ H8.out.2.2.1) (by intro e; have := HV.out.2.1; rw [e] at this; simp at this)
          by_cases ce : obL ⟨4, 0, ⟨0, 0, 0, 0, 0, 0⟩, 0, 0, 0, 0, 0, xs.drop 2⟩ = xs
          · have HF : Hid (IsGet xs ⟨4, 0, ⟨0, 0, 0, 0, 0, 0⟩, 0, 0, 0, 0, 0, xs.drop 2⟩ true) := get_is hm ce
            rw [ce] at hc1
            generalize strOfNums xs = st at *
            clear hm hX hh ce
            go_wp2_with (first
              | (refine store_bk rfl 26 _ _ rfl w.heap.size 0 [.int .i64 0, .int .i64 0, .int .i64 0, .int .i64 0, .int .i64 0, .int .i64 0, .int .i64 0, .int .i64 0, .int .i64 0, .int .i64 0, .int .i64 0, .int .i64 0, .int .i64 0, .slice none 0 0] [.int .i64 4, .int .i64 0, .int .i64 0, .int .i64 0, .int .i64 0, .int .i64 0, .int .i64 0, .int .i64 0, .int .i64 0, .int .i64 0, .int .i64 0, .int .i64 0, .int .i64 0, .slice az zz cz] [.int .i64 4, .int .i64 0, .int .i64 0, .int .i64 0, .int .i64 0, .int .i64 0, .int .i64 0, .int .i64 0, .int .i64 0, .int .i64 0, .int .i64 0, .int .i64 0, .int .i64 0, .slice az zz cz] rfl rfl 14 rfl H8.out.2.1 (Nat.le_refl _) rfl (by kernel_rfl) (one14v _ _ _) ?_; intro w7 h1 h2 h3 h4)
              | (refine load_bk rfl 26 _ rfl (w.heap.size + 1) 0 [.int .i64 4, .int .i64 0, .int .i64 0, .int .i64 0, .int .i64 0, .int .i64 0, .int .i64 0, .int .i64 0, .int .i64 0, .int .i64 0, .int .i64 0, .int .i64 0, .int .i64 0, .slice az zz cz] [.int .i64 4, .int .i64 0, .int .i64 0, .int .i64 0, .int .i64 0, .int .i64 0, .int .i64 0, .int .i64 0, .int .i64 0, .int .i64 0, .int .i64 0, .int .i64 0, .int .i64 0, .slice az zz cz] rfl H8.out.1 rfl _ Try.underlying26 rfl (by kernel_rfl) ?_))
            exact ret_ct (ty := 26) rfl w.heap.size [.int .i64 4, .int .i64 0, .int .i64 0, .int .i64 0, .int .i64 0, .int .i64 0, .int .i64 0, .int .i64 0, .int .i64 0, .int .i64 0, .int .i64 0, .int .i64 0, .int .i64 0, .slice az zz cz] (.bool true) rfl h1 _ Try.underlying26 rfl (by kernel_rfl) rfl rfl ⟨_, _, _, _, _, _, _, _, _, _, _, _, _, _, (xs.drop 2), true, rfl, (HU8.out.put h2).nums, HF.out, h3 _ _ (Nat.le_refl _) H8.out.2.2.1⟩
          · have HF : Hid (IsGet xs owZ false) := get_ne HO.out ce
            have hs : ¬ (strOfNums (obL ⟨4, 0, ⟨0, 0, 0, 0, 0, 0⟩, 0, 0, 0, 0, 0, xs.drop 2⟩)).toList = (strOfNums xs).toList := fun e => ce (str_inj _ _ (ob_bytes hm) (bys_all (HV.out.1 _ (Below.refl _ _))) e)
            generalize strOfNums xs = st at *
            generalize strOfNums (obL ⟨4, 0, ⟨0, 0, 0, 0, 0, 0⟩, 0, 0, 0, 0, 0, xs.drop 2⟩) = s8 at *
            have hs1 : (s8.toList == st.toList) = false := beq_eq_false_iff_ne.2 hs
            clear hm hX hh ce
            go_wp2_with (refine store_bk rfl 26 _ _ rfl w.heap.size 0 [.int .i64 0, .int .i64 0, .int .i64 0, .int .i64 0, .int .i64 0, .int .i64 0, .int .i64 0, .int .i64 0, .int .i64 0, .int .i64 0, .int .i64 0, .int .i64 0, .int .i64 0, .slice none 0 0] [.int .i64 0, .int .i64 0, .int .i64 0, .int .i64 0, .int .i64 0, .int .i64 0, .int .i64 0, .int .i64 0, .int .i64 0, .int .i64 0, .int .i64 0, .int .i64 0, .int .i64 0, .slice none 0 0] [.int .i64 0, .int .i64 0, .int .i64 0, .int .i64 0, .int .i64 0, .int .i64 0, .int .i64 0, .int .i64 0, .int .i64 0, .int .i64 0, .int .i64 0, .int .i64 0, .int .i64 0, .slice none 0 0] rfl rfl 14 rfl H8.out.2.1 (Nat.le_refl _) rfl (by kernel_rfl) one14z ?_; intro w7 h1 h2 h3 h4)
            exact ret_ct (ty := 26) rfl w.heap.size [.int .i64 0, .int .i64 0, .int .i64 0, .int .i64 0, .int .i64 0, .int .i64 0, .int .i64 0, .int .i64 0, .int .i64 0, .int .i64 0, .int .i64 0, .int .i64 0, .int .i64 0, .slice none 0 0] (.bool false) rfl h1 _ Try.underlying26 rfl (by kernel_rfl) rfl rfl (GetE.none (HF.out) (h3 _ _ (Nat.le_refl _) H8.out.2.2.1))
end Go.Proofs.Yteklcolphbcjlaa
/- Walks of the document's own Get: of all bytes. -/
namespace Go.Proofs.Yteklcolphbcjlaa
open Go.RowKit

set_option maxHeartbeats 2000000 in
set_option maxRecDepth 100000 in
theorem roget16_any (xs : List Int) (v : Value) (w : World) (h : Bys w v xs) : Calls Try.prog 12 #[v] w (GetE xs w) := by
  by_cases hl : 0 < xs.length ∧ xs.length ≤ 20
  · have hb := h.bd 0 hl.1
    by_cases k0 : xs.getD 0 0 = 0
    · exact roget16_0 xs v w h hl.1 hl.2 k0
    by_cases k1 : xs.getD 0 0 = 1
    · exact roget16_1 xs v w h hl.1 hl.2 k1
    by_cases k2 : xs.getD 0 0 = 2
    · exact roget16_2 xs v w h hl.1 hl.2 k2
    by_cases k3 : xs.getD 0 0 = 3
    · exact roget16_3 xs v w h hl.1 hl.2 k3
    by_cases k4 : xs.getD 0 0 = 4
    · exact roget16_4 xs v w h hl.1 hl.2 k4
    · exact roget16_far _ xs v w h hl.1 hl.2 rfl (by omega)
  · obtain ⟨a, cap, rfl, h1, h2, h3, h4, h5⟩ := h
    have HF : Hid (IsGet xs owZ false) := isGet_long (by omega)
    have HB : Hid (Bk (w.alloc (.cells #[.int .i64 0, .int .i64 0, .int .i64 0, .int .i64 0, .int .i64 0, .int .i64 0, .int .i64 0, .int .i64 0, .int .i64 0, .int .i64 0, .int .i64 0, .int .i64 0, .int .i64 0, .slice none 0 0] 26)) w.heap.size [.int .i64 0, .int .i64 0, .int .i64 0, .int .i64 0, .int .i64 0, .int .i64 0, .int .i64 0, .int .i64 0, .int .i64 0, .int .i64 0, .int .i64 0, .int .i64 0, .int .i64 0, .slice none 0 0] ∧ Below w.heap.size w (w.alloc (.cells #[.int .i64 0, .int .i64 0, .int .i64 0, .int .i64 0, .int .i64 0, .int .i64 0, .int .i64 0, .int .i64 0, .int .i64 0, .int .i64 0, .int .i64 0, .int .i64 0, .int .i64 0, .slice none 0 0] 26))) := ⟨Bk.new w _ _, below_b1 _ _⟩
    by_cases h0 : xs.length = 0
    · have c0' : ((xs.length : Int) == 0) = true := beq_iff_eq.2 (by omega)
      clear h3 h4 h5 hl
      go_enter Try.func12, Try.ntmps12
      go_wp2_with (refine store_bk rfl 26 _ _ rfl w.heap.size 0 [.int .i64 0, .int .i64 0, .int .i64 0, .int .i64 0, .int .i64 0, .int .i64 0, .int .i64 0, .int .i64 0, .int .i64 0, .int .i64 0, .int .i64 0, .int .i64 0, .int .i64 0, .slice none 0 0] [.int .i64 0, .int .i64 0, .int .i64 0, .int .i64 0, .int .i64 0, .int .i64 0, .int .i64 0, .int .i64 0, .int .i64 0, .int .i64 0, .int .i64 0, .int .i64 0, .int .i64 0, .slice none 0 0] [.int .i64 0, .int .i64 0, .int .i64 0, .int .i64 0, .int .i64 0, .int .i64 0, .int .i64 0, .int .i64 0, .int .i64 0, .int .i64 0, .int .i64 0, .int .i64 0, .int .i64 0, .slice none 0 0] rfl rfl 14 rfl HB.out.1 (Nat.le_refl _) rfl (by kernel_rfl) one14z ?_; intro w7 h1 h2 h3 h4)
      exact ret_ct (ty := 26) rfl w.heap.size [.int .i64 0, .int .i64 0, .int .i64 0, .int .i64 0, .int .i64 0, .int .i64 0, .int .i64 0, .int .i64 0, .int .i64 0, .int .i64 0, .int .i64 0, .int .i64 0, .int .i64 0, .slice none 0 0] (.bool false) rfl h1 _ Try.underlying26 rfl (by kernel_rfl) rfl rfl (GetE.none (HF.out) (h3 _ _ (Nat.le_refl _) HB.out.2))
    · have c0' : ((xs.length : Int) == 0) = false := beq_eq_false_iff_ne.2 (by omega)
      have c20 : (20 : Int) < xs.length := by omega
      clear h3 h4 h5 hl
      go_enter Try.func12, Try.ntmps12
      go_wp2_with (refine store_bk rfl 26 _ _ rfl w.heap.size 0 [.int .i64 0, .int .i64 0, .int .i64 0, .int .i64 0, .int .i64 0, .int .i64 0, .int .i64 0, .int .i64 0, .int .i64 0, .int .i64 0, .int .i64 0, .int .i64 0, .int .i64 0, .slice none 0 0] [.int .i64 0, .int .i64 0, .int .i64 0, .int .i64 0, .int .i64 0, .int .i64 0, .int .i64 0, .int .i64 0, .int .i64 0, .int .i64 0, .int .i64 0, .int .i64 0, .int .i64 0, .slice none 0 0] [.int .i64 0, .int .i64 0, .int .i64 0, .int .i64 0, .int .i64 0, .int .i64 0, .int .i64 0, .int .i64 0, .int .i64 0, .int .i64 0, .int .i64 0, .int .i64 0, .int .i64 0, .slice none 0 0] rfl rfl 14 rfl HB.out.1 (Nat.le_refl _) rfl (by kernel_rfl) one14z ?_; intro w7 h1 h2 h3 h4)
      exact ret_ct (ty := 26) rfl w.heap.size [.int .i64 0, .int .i64 0, .int .i64 0, .int .i64 0, .int .i64 0, .int .i64 0, .int .i64 0, .int .i64 0, .int .i64 0, .int .i64 0, .int .i64 0, .int .i64 0, .int .i64 0, .slice none 0 0] (.bool false) rfl h1 _ Try.underlying26 rfl (by kernel_rfl) rfl rfl (GetE.none (HF.out) (h3 _ _ (Nat.le_refl _) HB.out.2))
end Go.Proofs.Yteklcolphbcjlaa
