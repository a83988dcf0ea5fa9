/- Texts that belong together, one behind the other: AA3, E7, E14, AA4. -/
import Derived.Test.YteklcolphbcjlaaQ8
import Derived.Deep.CutRange
import Derived.Test.YteklcolphbcjlaaQ1
import Derived.Deep.RegionHeld3
import Derived.Laws.AppendOwnNone
import Derived.Test.YteklcolphbcjlaaQ6
/- The document's own May of what is asked. -/
namespace Go.Proofs.Yteklcolphbcjlaa
open Go.RowKit

theorem om_0 {id t m w c v : Int} {s : Sp} {d : List Int} : omB ⟨0, id, s, t, m, w, c, v, d⟩ = (sy16 s && smO ⟨0, id, ⟨0, 0, 0, 0, 0, 0⟩, t, m, w, c, v, d⟩ ⟨0, 0, ⟨0, 0, 0, 0, 0, 0⟩, 0, 0, 0, 0, 0, []⟩) := by
  rw [Bool.eq_iff_iff]
  simp [omB, smO, spB, List.isEmpty_iff]
  intro _
  constructor <;> intro h <;> simp_all
theorem om_1 {id t m w c v : Int} {s : Sp} {d : List Int} : omB ⟨1, id, s, t, m, w, c, v, d⟩ = ((smN id 65535 && (smN t 255 && smN m 255)) && smO ⟨0, 0, s, 0, 0, w, c, v, d⟩ ⟨0, 0, ⟨0, 0, 0, 0, 0, 0⟩, 0, 0, 0, 0, 0, []⟩) := by
  rw [Bool.eq_iff_iff]
  simp [omB, smO, smN, sz16, spB, List.isEmpty_iff]
  intros
  constructor <;> intro h <;> simp_all
theorem om_2 {id t m w c v : Int} {s : Sp} {d : List Int} : omB ⟨2, id, s, t, m, w, c, v, d⟩ = (smN id 65535 && smO ⟨0, 0, s, t, m, w, c, v, d⟩ ⟨0, 0, ⟨0, 0, 0, 0, 0, 0⟩, 0, 0, 0, 0, 0, []⟩) := by
  rw [Bool.eq_iff_iff]
  simp [omB, smO, smN, sz16, spB, List.isEmpty_iff]
  intros
  constructor <;> intro h <;> simp_all
theorem om_3 {id t m w c v : Int} {s : Sp} {d : List Int} : omB ⟨3, id, s, t, m, w, c, v, d⟩ = ((smN w 255 && (smN c 255 && smN v 65535)) && smO ⟨0, id, s, t, m, 0, 0, 0, d⟩ ⟨0, 0, ⟨0, 0, 0, 0, 0, 0⟩, 0, 0, 0, 0, 0, []⟩) := by
  rw [Bool.eq_iff_iff]
  simp [omB, smO, smN, sz16, spB, List.isEmpty_iff]
  intros
  constructor <;> intro h <;> simp_all
theorem om_4 {id t m w c v : Int} {s : Sp} {d : List Int} : omB ⟨4, id, s, t, m, w, c, v, d⟩ = ((decide (d.length ≤ 4) && inD d) && smO ⟨0, id, s, t, m, w, c, v, []⟩ ⟨0, 0, ⟨0, 0, 0, 0, 0, 0⟩, 0, 0, 0, 0, 0, []⟩) := by
  rw [Bool.eq_iff_iff]
  simp [omB, smO, sz16, spB]
  constructor <;> intro h <;> simp_all
theorem om_x {k id t m w c v : Int} {s : Sp} {d : List Int} (h0 : k ≠ 0) (h1 : k ≠ 1) (h2 : k ≠ 2) (h3 : k ≠ 3) (h4 : k ≠ 4) : omB ⟨k, id, s, t, m, w, c, v, d⟩ = false := by
  unfold omB
  simp [h0, h1, h2, h3, h4]
theorem sy16_eq (s : Sp) : sy16 s = (smN s.c 255 && (smN s.t 255 && (smN s.x 255 && (smN s.m 255 && (smN s.k 255 && smN s.e 255))))) := by
  rw [Bool.eq_iff_iff]
  simp [sy16, smN]
theorem inD_snoc (l : List Int) (x : Int) : inD (l ++ [x]) = (inD l && decide (1 ≤ x ∧ x ≤ 20)) := by
  induction l with
  | nil => simp [inD]
  | cons a l ih => simp [inD, ih, Bool.and_assoc]
theorem one14 {v0 v1 v2 v3 v4 v5 v6 v7 v8 v9 v10 v11 v12 v13 : Value} (h : ∀ u ∈ [v0, v1, v2, v3, v4, v5, v6, v7, v8, v9, v10, v11, v12, v13], (∃ k n, u = Value.int k n) ∨ (∃ z, u = Value.bool z) ∨ ∃ a l c, u = Value.slice a l c) : ∀ v ∈ [v0, v1, v2, v3, v4, v5, v6, v7, v8, v9, v10, v11, v12, v13], v.oneCell' = true := fun v hv => by
  rcases h v hv with ⟨k, n, rfl⟩ | ⟨z, rfl⟩ | ⟨a, l, c, rfl⟩ <;> rfl
theorem one6b {v0 v1 v2 v3 v4 v5 : Value} (h : ∀ u ∈ [v0, v1, v2, v3, v4, v5], ∃ k n, u = Value.int k n) : ∀ v ∈ [v0, v1, v2, v3, v4, v5], v.oneCell' = true := fun v hv => by
  obtain ⟨k, n, rfl⟩ := h v hv
  rfl
theorem Nums_nil (w : World) : Nums w (.slice none 0 0) [] := ⟨none, 0, rfl, by simp, by simp, fun h => absurd rfl h⟩
set_option maxHeartbeats 8000000 in
set_option maxRecDepth 100000 in
theorem romay_any (ok oid ec et ex em ek ee ot om ow oc ov : Int) (dv : Value) (ds : List Int) (w : World) (h : Nums w dv ds) (hl : ds.length ≤ 1000) :
    Calls Try.prog 20 #[.agg #[.int .i64 ok, .int .i64 oid, .int .i64 ec, .int .i64 et, .int .i64 ex, .int .i64 em, .int .i64 ek, .int .i64 ee, .int .i64 ot, .int .i64 om, .int .i64 ow, .int .i64 oc, .int .i64 ov, dv]] w fun e w' => e = .returned (.bool (omB ⟨ok, oid, ⟨ec, et, ex, em, ek, ee⟩, ot, om, ow, oc, ov, ds⟩)) ∧ Below w.heap.size w w' := by
  have HB0 : Hid (Bk (w.alloc (.cells #[.int .i64 ok, .int .i64 oid, .int .i64 ec, .int .i64 et, .int .i64 ex, .int .i64 em, .int .i64 ek, .int .i64 ee, .int .i64 ot, .int .i64 om, .int .i64 ow, .int .i64 oc, .int .i64 ov, dv] 26)) w.heap.size [.int .i64 ok, .int .i64 oid, .int .i64 ec, .int .i64 et, .int .i64 ex, .int .i64 em, .int .i64 ek, .int .i64 ee, .int .i64 ot, .int .i64 om, .int .i64 ow, .int .i64 oc, .int .i64 ov, dv] ∧ Below w.heap.size w (w.alloc (.cells #[.int .i64 ok, .int .i64 oid, .int .i64 ec, .int .i64 et, .int .i64 ex, .int .i64 em, .int .i64 ek, .int .i64 ee, .int .i64 ot, .int .i64 om, .int .i64 ow, .int .i64 oc, .int .i64 ov, dv] 26))) := ⟨Bk.new w _ _, below_b1 _ _⟩
  have HN : Hid ((∀ w', Below w.heap.size w w' → Nums w' dv ds) ∧ ds.length ≤ 1000) := ⟨fun w' hb => h.later hb, hl⟩
  obtain ⟨da, dc, HDV⟩ : ∃ a c, Hid (dv = .slice a ds.length c) := by obtain ⟨a, c, e, _⟩ := h; exact ⟨a, c, e⟩
  clear h hl
  go_enter Try.func20, Try.ntmps20
  go_upto_region 1 with fail
  generalize (w.alloc (.cells #[.int .i64 ok, .int .i64 oid, .int .i64 ec, .int .i64 et, .int .i64 ex, .int .i64 em, .int .i64 ek, .int .i64 ee, .int .i64 ot, .int .i64 om, .int .i64 ow, .int .i64 oc, .int .i64 ov, dv] 26)) = W0 at *
  have hl0 := HB0.out.1.lt
  go_upto_region 2 with (first | (refine load_bk rfl 26 _ rfl _ 0 [.int .i64 ok, .int .i64 oid, .int .i64 ec, .int .i64 et, .int .i64 ex, .int .i64 em, .int .i64 ek, .int .i64 ee, .int .i64 ot, .int .i64 om, .int .i64 ow, .int .i64 oc, .int .i64 ov, dv] [.int .i64 ok, .int .i64 oid, .int .i64 ec, .int .i64 et, .int .i64 ex, .int .i64 em, .int .i64 ek, .int .i64 ee, .int .i64 ot, .int .i64 om, .int .i64 ow, .int .i64 oc, .int .i64 ov, dv] rfl HB0.out.1 rfl _ Try.underlying26 rfl (by kernel_rfl) ?_) | (refine store_bk rfl 26 _ _ rfl _ 0 _ [.int .i64 ok, .int .i64 oid, .int .i64 ec, .int .i64 et, .int .i64 ex, .int .i64 em, .int .i64 ek, .int .i64 ee, .int .i64 ot, .int .i64 om, .int .i64 ow, .int .i64 oc, .int .i64 ov, dv] [.int .i64 ok, .int .i64 oid, .int .i64 ec, .int .i64 et, .int .i64 ex, .int .i64 em, .int .i64 ek, .int .i64 ee, .int .i64 ot, .int .i64 om, .int .i64 ow, .int .i64 oc, .int .i64 ov, dv] rfl rfl 14 rfl (Bk.new _ _ _) (by simp) rfl (by kernel_rfl) (one14 (by rw [HDV.out]; simp)) ?_; intro W1 hk1 hk2 hk3 hk4))
  have HR0 : Hid (Bk W1 W0.heap.size [.int .i64 ok, .int .i64 oid, .int .i64 ec, .int .i64 et, .int .i64 ex, .int .i64 em, .int .i64 ek, .int .i64 ee, .int .i64 ot, .int .i64 om, .int .i64 ow, .int .i64 oc, .int .i64 ov, dv] ∧ Bk W1 w.heap.size [.int .i64 ok, .int .i64 oid, .int .i64 ec, .int .i64 et, .int .i64 ex, .int .i64 em, .int .i64 ek, .int .i64 ee, .int .i64 ot, .int .i64 om, .int .i64 ow, .int .i64 oc, .int .i64 ov, dv] ∧ Below w.heap.size w W1 ∧ w.heap.size < W0.heap.size) := ⟨hk1, hk2 _ _ (by omega) (HB0.out.1.later (below_b1 _ _)), hk3 _ _ HB0.out.2.size (HB0.out.2.alloc HB0.out.2.size _), hl0⟩
  clear hk1 hk2 hk3 hk4 HB0 hl0
  generalize W0.heap.size = qr at *
  have m0 : W1.cell? ⟨qr, 0, none⟩ = some (.int .i64 ok) := HR0.out.1.cell rfl
  have f0 : W1.frozen? ⟨qr, 0, none⟩ = false := HR0.out.1.frz (by simp)
  go_upto_region 3 with fail
  have HG0 : Hid (Bk (W1.setCell ⟨qr, 0, none⟩ (.int .i64 0)) qr [.int .i64 0, .int .i64 oid, .int .i64 ec, .int .i64 et, .int .i64 ex, .int .i64 em, .int .i64 ek, .int .i64 ee, .int .i64 ot, .int .i64 om, .int .i64 ow, .int .i64 oc, .int .i64 ov, dv] ∧ Bk (W1.setCell ⟨qr, 0, none⟩ (.int .i64 0)) w.heap.size [.int .i64 ok, .int .i64 oid, .int .i64 ec, .int .i64 et, .int .i64 ex, .int .i64 em, .int .i64 ek, .int .i64 ee, .int .i64 ot, .int .i64 om, .int .i64 ow, .int .i64 oc, .int .i64 ov, dv] ∧ Below w.heap.size w (W1.setCell ⟨qr, 0, none⟩ (.int .i64 0)) ∧ w.heap.size < qr) := ⟨HR0.out.1.set 0 _, HR0.out.2.1.other (Nat.ne_of_gt HR0.out.2.2.2) _, HR0.out.2.2.1.setCell (p := ⟨qr, 0, none⟩) (Nat.le_of_lt HR0.out.2.2.2) _, HR0.out.2.2.2⟩
  clear m0 f0 HR0
  generalize (W1.setCell ⟨qr, 0, none⟩ (.int .i64 0)) = W2 at *
  have hq := HG0.out.2.2.2
  have e0 : W2.cell? ⟨w.heap.size, 0, none⟩ = some (.int .i64 ok) := HG0.out.2.1.cell rfl
  by_cases k0 : ok = 0
  · obtain rfl : (0 : Int) = ok := k0.symm
    clear k0
    obtain ⟨y0, hy0⟩ : ∃ y, smN ec 255 = y := ⟨_, rfl⟩
    have HY0 : Hid (smN ec 255 = y0) := hy0
    obtain ⟨y1, hy1⟩ : ∃ y, smN et 255 = y := ⟨_, rfl⟩
    have HY1 : Hid (smN et 255 = y1) := hy1
    obtain ⟨y2, hy2⟩ : ∃ y, smN ex 255 = y := ⟨_, rfl⟩
    have HY2 : Hid (smN ex 255 = y2) := hy2
    obtain ⟨y3, hy3⟩ : ∃ y, smN em 255 = y := ⟨_, rfl⟩
    have HY3 : Hid (smN em 255 = y3) := hy3
    obtain ⟨y4, hy4⟩ : ∃ y, smN ek 255 = y := ⟨_, rfl⟩
    have HY4 : Hid (smN ek 255 = y4) := hy4
    obtain ⟨y5, hy5⟩ : ∃ y, smN ee 255 = y := ⟨_, rfl⟩
    have HY5 : Hid (smN ee 255 = y5) := hy5
    obtain ⟨y, hy⟩ : ∃ y, (y0 && (y1 && (y2 && (y3 && (y4 && y5))))) = y := ⟨_, rfl⟩
    have HY : Hid ((y0 && (y1 && (y2 && (y3 && (y4 && y5))))) = y) := hy
    have HO : Hid (omB ⟨0, oid, ⟨ec, et, ex, em, ek, ee⟩, ot, om, ow, oc, ov, ds⟩ = (y && smO ⟨0, oid, ⟨0, 0, 0, 0, 0, 0⟩, ot, om, ow, oc, ov, ds⟩ owZ)) := by show _ = _; rw [om_0, sy16_eq]; simp only [hy0, hy1, hy2, hy3, hy4, hy5, hy]; rfl
    clear hy hy0 hy1 hy2 hy3 hy4 hy5
    go_upto_region 7 with (first | (refine load_bk rfl 23 _ rfl _ 2 [.int .i64 0, .int .i64 oid, .int .i64 ec, .int .i64 et, .int .i64 ex, .int .i64 em, .int .i64 ek, .int .i64 ee, .int .i64 ot, .int .i64 om, .int .i64 ow, .int .i64 oc, .int .i64 ov, dv] [.int .i64 ec, .int .i64 et, .int .i64 ex, .int .i64 em, .int .i64 ek, .int .i64 ee] rfl HG0.out.2.1 rfl _ Try.underlying23 rfl (by kernel_rfl) ?_) | (refine store_bk rfl 23 _ _ rfl _ 0 _ [.int .i64 ec, .int .i64 et, .int .i64 ex, .int .i64 em, .int .i64 ek, .int .i64 ee] [.int .i64 ec, .int .i64 et, .int .i64 ex, .int .i64 em, .int .i64 ek, .int .i64 ee] rfl rfl 6 rfl (Bk.new _ _ _) (by simp) rfl (by kernel_rfl) (one6b (by simp)) ?_; intro W5 hk1 hk2 hk3 hk4))
    have H5 : Hid (Bk W5 W2.heap.size [.int .i64 ec, .int .i64 et, .int .i64 ex, .int .i64 em, .int .i64 ek, .int .i64 ee] ∧ Bk W5 qr [.int .i64 0, .int .i64 oid, .int .i64 ec, .int .i64 et, .int .i64 ex, .int .i64 em, .int .i64 ek, .int .i64 ee, .int .i64 ot, .int .i64 om, .int .i64 ow, .int .i64 oc, .int .i64 ov, dv] ∧ Below w.heap.size w W5 ∧ w.heap.size < qr) := ⟨hk1, hk2 _ _ (Nat.ne_of_lt HG0.out.1.lt) (HG0.out.1.later (below_b1 _ _)), hk3 _ _ HG0.out.2.2.1.size (HG0.out.2.2.1.alloc HG0.out.2.2.1.size _), hq⟩
    clear hk1 hk2 hk3 hk4 HG0 e0
    generalize W2.heap.size = qs at *
    have c0 : W5.cell? ⟨qs, 0, none⟩ = some (.int .i64 ec) := H5.out.1.cell rfl
    have c1 : W5.cell? ⟨qs, 1, none⟩ = some (.int .i64 et) := H5.out.1.cell rfl
    have c2 : W5.cell? ⟨qs, 2, none⟩ = some (.int .i64 ex) := H5.out.1.cell rfl
    have c3 : W5.cell? ⟨qs, 3, none⟩ = some (.int .i64 em) := H5.out.1.cell rfl
    have c4 : W5.cell? ⟨qs, 4, none⟩ = some (.int .i64 ek) := H5.out.1.cell rfl
    have c5 : W5.cell? ⟨qs, 5, none⟩ = some (.int .i64 ee) := H5.out.1.cell rfl
    simp only [Act.put]
    go_cut [4] from 16 to 43 (fun s4 wc => s4 = .bool y ∧ wc = W5)
    case first =>
      go_wp2_with fail
      refine (small_any ec 255 _).mono ?_
      rintro e w4 ⟨rfl, hw4⟩
      obtain rfl := hw4.symm
      rw [HY0.out]
      cases y0
      · go_wp2_with fail; go_meet; exact ⟨by rw [← HY.out]; rfl, rfl⟩
      go_wp2_with fail
      refine (small_any et 255 _).mono ?_
      rintro e w4 ⟨rfl, hw4⟩
      obtain rfl := hw4.symm
      rw [HY1.out]
      cases y1
      · go_wp2_with fail; go_meet; exact ⟨by rw [← HY.out]; rfl, rfl⟩
      go_wp2_with fail
      refine (small_any ex 255 _).mono ?_
      rintro e w4 ⟨rfl, hw4⟩
      obtain rfl := hw4.symm
      rw [HY2.out]
      cases y2
      · go_wp2_with fail; go_meet; exact ⟨by rw [← HY.out]; rfl, rfl⟩
      go_wp2_with fail
      refine (small_any em 255 _).mono ?_
      rintro e w4 ⟨rfl, hw4⟩
      obtain rfl := hw4.symm
      rw [HY3.out]
      cases y3
      · go_wp2_with fail; go_meet; exact ⟨by rw [← HY.out]; rfl, rfl⟩
      go_wp2_with fail
      refine (small_any ek 255 _).mono ?_
      rintro e w4 ⟨rfl, hw4⟩
      obtain rfl := hw4.symm
      rw [HY4.out]
      cases y4
      · go_wp2_with fail; go_meet; exact ⟨by rw [← HY.out]; rfl, rfl⟩
      go_wp2_with fail
      refine (small_any ee 255 _).mono ?_
      rintro e w4 ⟨rfl, hw4⟩
      obtain rfl := hw4.symm
      rw [HY5.out]
      go_wp2_with fail; go_meet; exact ⟨by rw [← HY.out]; rfl, rfl⟩
    case rest =>
      obtain ⟨rfl, hwc⟩ := hcut
      obtain rfl := hwc.symm
      clear c0 c1 c2 c3 c4 c5 HY HY0 HY1 HY2 HY3 HY4 HY5
      have hl1 := H5.out.2.1.lt
      go_upto_region 29 with (refine store_bk rfl 23 _ _ rfl qr 2 [.int .i64 0, .int .i64 oid, .int .i64 ec, .int .i64 et, .int .i64 ex, .int .i64 em, .int .i64 ek, .int .i64 ee, .int .i64 ot, .int .i64 om, .int .i64 ow, .int .i64 oc, .int .i64 ov, dv] [.int .i64 0, .int .i64 0, .int .i64 0, .int .i64 0, .int .i64 0, .int .i64 0] [.int .i64 0, .int .i64 oid, .int .i64 0, .int .i64 0, .int .i64 0, .int .i64 0, .int .i64 0, .int .i64 0, .int .i64 ot, .int .i64 om, .int .i64 ow, .int .i64 oc, .int .i64 ov, dv] rfl rfl 6 rfl H5.out.2.1 (by simp) rfl (by kernel_rfl) (one6b (by simp)) ?_; intro W6 hk1 hk2 hk3 hk4)
      have HG : Hid (Bk W6 qr [.int .i64 0, .int .i64 oid, .int .i64 0, .int .i64 0, .int .i64 0, .int .i64 0, .int .i64 0, .int .i64 0, .int .i64 ot, .int .i64 om, .int .i64 ow, .int .i64 oc, .int .i64 ov, dv] ∧ Below w.heap.size w W6) := ⟨hk1, hk3 _ _ (Nat.le_of_lt H5.out.2.2.2) H5.out.2.2.1⟩
      clear hk1 hk2 hk3 hk4 H5 hl1
      have hl1 := HG.out.1.lt
      go_wp2_with (refine load_bk rfl 26 _ rfl qr 0 [.int .i64 0, .int .i64 oid, .int .i64 0, .int .i64 0, .int .i64 0, .int .i64 0, .int .i64 0, .int .i64 0, .int .i64 ot, .int .i64 om, .int .i64 ow, .int .i64 oc, .int .i64 ov, dv] [.int .i64 0, .int .i64 oid, .int .i64 0, .int .i64 0, .int .i64 0, .int .i64 0, .int .i64 0, .int .i64 0, .int .i64 ot, .int .i64 om, .int .i64 ow, .int .i64 oc, .int .i64 ov, dv] rfl HG.out.1 rfl _ Try.underlying26 rfl (by kernel_rfl) ?_)
      refine (osame_any 0 oid 0 0 0 0 0 0 ot om ow oc ov dv 0 0 0 0 0 0 0 0 0 0 0 0 0 (.slice none 0 0) ds [] _ (HN.out.1 _ HG.out.2) (Nums_nil _) (HN.out.2) (by simp)).mono ?_
      rintro e w9 ⟨rfl, hb9⟩
      have HE : Hid (Below w.heap.size w w9) := HG.out.2.trans (hb9.mono HG.out.2.size)
      clear hb9
      cases y with
      | false => go_wp2; go_ret; exact ⟨ret_b (by rw [HO.out]; rfl), HE.out⟩
      | true => go_wp2; go_ret; exact ⟨ret_b (by rw [HO.out]; rfl), HE.out⟩
  by_cases k1 : ok = 1
  · obtain rfl : (1 : Int) = ok := k1.symm
    clear k0 k1
    have e1 : W2.cell? ⟨w.heap.size, 1, none⟩ = some (.int .i64 oid) := HG0.out.2.1.cell rfl
    have e8 : W2.cell? ⟨w.heap.size, 8, none⟩ = some (.int .i64 ot) := HG0.out.2.1.cell rfl
    have e9 : W2.cell? ⟨w.heap.size, 9, none⟩ = some (.int .i64 om) := HG0.out.2.1.cell rfl
    obtain ⟨y0, hy0⟩ : ∃ y, smN oid 65535 = y := ⟨_, rfl⟩
    have HY0 : Hid (smN oid 65535 = y0) := hy0
    obtain ⟨y1, hy1⟩ : ∃ y, smN ot 255 = y := ⟨_, rfl⟩
    have HY1 : Hid (smN ot 255 = y1) := hy1
    obtain ⟨y2, hy2⟩ : ∃ y, smN om 255 = y := ⟨_, rfl⟩
    have HY2 : Hid (smN om 255 = y2) := hy2
    obtain ⟨y, hy⟩ : ∃ y, (y0 && (y1 && y2)) = y := ⟨_, rfl⟩
    have HY : Hid ((y0 && (y1 && y2)) = y) := hy
    have HO : Hid (omB ⟨1, oid, ⟨ec, et, ex, em, ek, ee⟩, ot, om, ow, oc, ov, ds⟩ = (y && smO ⟨0, 0, ⟨ec, et, ex, em, ek, ee⟩, 0, 0, ow, oc, ov, ds⟩ owZ)) := by show _ = _; rw [om_1, hy0, hy1, hy2, hy]; rfl
    clear hy hy0 hy1 hy2
    go_upto_region 10 with fail
    go_cut [4] from 48 to 60 (fun s4 wc => s4 = .bool y ∧ wc = W2)
    case first =>
      go_wp2_with fail
      refine (small_any oid 65535 _).mono ?_
      rintro e w4 ⟨rfl, hw4⟩
      obtain rfl := hw4.symm
      rw [HY0.out]
      cases y0
      · go_wp2_with fail; go_meet; exact ⟨by rw [← HY.out]; rfl, rfl⟩
      go_wp2_with fail
      refine (small_any ot 255 _).mono ?_
      rintro e w4 ⟨rfl, hw4⟩
      obtain rfl := hw4.symm
      rw [HY1.out]
      cases y1
      · go_wp2_with fail; go_meet; exact ⟨by rw [← HY.out]; rfl, rfl⟩
      go_wp2_with fail
      refine (small_any om 255 _).mono ?_
      rintro e w4 ⟨rfl, hw4⟩
      obtain rfl := hw4.symm
      rw [HY2.out]
      go_wp2_with fail; go_meet; exact ⟨by rw [← HY.out]; rfl, rfl⟩
    case rest =>
      obtain ⟨rfl, hwc⟩ := hcut
      obtain rfl := hwc.symm
      clear e1 e8 e9 HY HY0 HY1 HY2
      have m1 : W2.cell? ⟨qr, 1, none⟩ = some (.int .i64 oid) := HG0.out.1.cell rfl
      have f1 : W2.frozen? ⟨qr, 1, none⟩ = false := HG0.out.1.frz (by simp)
      have m8 : W2.cell? ⟨qr, 8, none⟩ = some (.int .i64 ot) := HG0.out.1.cell rfl
      have f8 : W2.frozen? ⟨qr, 8, none⟩ = false := HG0.out.1.frz (by simp)
      have m9 : W2.cell? ⟨qr, 9, none⟩ = some (.int .i64 om) := HG0.out.1.cell rfl
      have f9 : W2.frozen? ⟨qr, 9, none⟩ = false := HG0.out.1.frz (by simp)
      go_upto_region 29 with fail
      have HG : Hid (Bk (((W2.setCell ⟨qr, 1, none⟩ (.int .i64 0)).setCell ⟨qr, 8, none⟩ (.int .i64 0)).setCell ⟨qr, 9, none⟩ (.int .i64 0)) qr [.int .i64 0, .int .i64 0, .int .i64 ec, .int .i64 et, .int .i64 ex, .int .i64 em, .int .i64 ek, .int .i64 ee, .int .i64 0, .int .i64 0, .int .i64 ow, .int .i64 oc, .int .i64 ov, dv] ∧ Below w.heap.size w (((W2.setCell ⟨qr, 1, none⟩ (.int .i64 0)).setCell ⟨qr, 8, none⟩ (.int .i64 0)).setCell ⟨qr, 9, none⟩ (.int .i64 0))) := ⟨(((HG0.out.1.set 1 _).set 8 _).set 9 _), (((HG0.out.2.2.1.setCell (p := ⟨qr, 1, none⟩) (Nat.le_of_lt HG0.out.2.2.2) _).setCell (p := ⟨qr, 8, none⟩) (Nat.le_of_lt HG0.out.2.2.2) _).setCell (p := ⟨qr, 9, none⟩) (Nat.le_of_lt HG0.out.2.2.2) _)⟩
      clear HG0 e0 m1 f1 m8 f8 m9 f9
      generalize (((W2.setCell ⟨qr, 1, none⟩ (.int .i64 0)).setCell ⟨qr, 8, none⟩ (.int .i64 0)).setCell ⟨qr, 9, none⟩ (.int .i64 0)) = W3 at *
      have hl1 := HG.out.1.lt
      go_wp2_with (refine load_bk rfl 26 _ rfl qr 0 [.int .i64 0, .int .i64 0, .int .i64 ec, .int .i64 et, .int .i64 ex, .int .i64 em, .int .i64 ek, .int .i64 ee, .int .i64 0, .int .i64 0, .int .i64 ow, .int .i64 oc, .int .i64 ov, dv] [.int .i64 0, .int .i64 0, .int .i64 ec, .int .i64 et, .int .i64 ex, .int .i64 em, .int .i64 ek, .int .i64 ee, .int .i64 0, .int .i64 0, .int .i64 ow, .int .i64 oc, .int .i64 ov, dv] rfl HG.out.1 rfl _ Try.underlying26 rfl (by kernel_rfl) ?_)
      refine (osame_any 0 0 ec et ex em ek ee 0 0 ow oc ov dv 0 0 0 0 0 0 0 0 0 0 0 0 0 (.slice none 0 0) ds [] _ (HN.out.1 _ HG.out.2) (Nums_nil _) (HN.out.2) (by simp)).mono ?_
      rintro e w9 ⟨rfl, hb9⟩
      have HE : Hid (Below w.heap.size w w9) := HG.out.2.trans (hb9.mono HG.out.2.size)
      clear hb9
      cases y with
      | false => go_wp2; go_ret; exact ⟨ret_b (by rw [HO.out]; rfl), HE.out⟩
      | true => go_wp2; go_ret; exact ⟨ret_b (by rw [HO.out]; rfl), HE.out⟩
  by_cases k2 : ok = 2
  · obtain rfl : (2 : Int) = ok := k2.symm
    clear k0 k1 k2
    have e1 : W2.cell? ⟨w.heap.size, 1, none⟩ = some (.int .i64 oid) := HG0.out.2.1.cell rfl
    obtain ⟨y, hy⟩ : ∃ y, smN oid 65535 = y := ⟨_, rfl⟩
    have HY : Hid (smN oid 65535 = y) := hy
    have HO : Hid (omB ⟨2, oid, ⟨ec, et, ex, em, ek, ee⟩, ot, om, ow, oc, ov, ds⟩ = (y && smO ⟨0, 0, ⟨ec, et, ex, em, ek, ee⟩, ot, om, ow, oc, ov, ds⟩ owZ)) := by show _ = _; rw [om_2, hy]; rfl
    clear hy
    go_wp2_with fail
    refine (small_any oid 65535 _).mono ?_
    rintro e w4 ⟨rfl, hw4⟩
    obtain rfl := hw4.symm
    rw [HY.out]
    have m1 : W2.cell? ⟨qr, 1, none⟩ = some (.int .i64 oid) := HG0.out.1.cell rfl
    have f1 : W2.frozen? ⟨qr, 1, none⟩ = false := HG0.out.1.frz (by simp)
    go_upto_region 29 with fail
    have HG : Hid (Bk (W2.setCell ⟨qr, 1, none⟩ (.int .i64 0)) qr [.int .i64 0, .int .i64 0, .int .i64 ec, .int .i64 et, .int .i64 ex, .int .i64 em, .int .i64 ek, .int .i64 ee, .int .i64 ot, .int .i64 om, .int .i64 ow, .int .i64 oc, .int .i64 ov, dv] ∧ Below w.heap.size w (W2.setCell ⟨qr, 1, none⟩ (.int .i64 0))) := ⟨HG0.out.1.set 1 _, HG0.out.2.2.1.setCell (p := ⟨qr, 1, none⟩) (Nat.le_of_lt HG0.out.2.2.2) _⟩
    clear HG0 e0 e1 m1 f1
    generalize (W2.setCell ⟨qr, 1, none⟩ (.int .i64 0)) = W3 at *
    have hl1 := HG.out.1.lt
    go_wp2_with (refine load_bk rfl 26 _ rfl qr 0 [.int .i64 0, .int .i64 0, .int .i64 ec, .int .i64 et, .int .i64 ex, .int .i64 em, .int .i64 ek, .int .i64 ee, .int .i64 ot, .int .i64 om, .int .i64 ow, .int .i64 oc, .int .i64 ov, dv] [.int .i64 0, .int .i64 0, .int .i64 ec, .int .i64 et, .int .i64 ex, .int .i64 em, .int .i64 ek, .int .i64 ee, .int .i64 ot, .int .i64 om, .int .i64 ow, .int .i64 oc, .int .i64 ov, dv] rfl HG.out.1 rfl _ Try.underlying26 rfl (by kernel_rfl) ?_)
    refine (osame_any 0 0 ec et ex em ek ee ot om ow oc ov dv 0 0 0 0 0 0 0 0 0 0 0 0 0 (.slice none 0 0) ds [] _ (HN.out.1 _ HG.out.2) (Nums_nil _) (HN.out.2) (by simp)).mono ?_
    rintro e w9 ⟨rfl, hb9⟩
    have HE : Hid (Below w.heap.size w w9) := HG.out.2.trans (hb9.mono HG.out.2.size)
    clear hb9
    cases y with
    | false => go_wp2; go_ret; exact ⟨ret_b (by rw [HO.out]; rfl), HE.out⟩
    | true => go_wp2; go_ret; exact ⟨ret_b (by rw [HO.out]; rfl), HE.out⟩
  by_cases k3 : ok = 3
  · obtain rfl : (3 : Int) = ok := k3.symm
    clear k0 k1 k2 k3
    have e10 : W2.cell? ⟨w.heap.size, 10, none⟩ = some (.int .i64 ow) := HG0.out.2.1.cell rfl
    have e11 : W2.cell? ⟨w.heap.size, 11, none⟩ = some (.int .i64 oc) := HG0.out.2.1.cell rfl
    have e12 : W2.cell? ⟨w.heap.size, 12, none⟩ = some (.int .i64 ov) := HG0.out.2.1.cell rfl
    obtain ⟨y0, hy0⟩ : ∃ y, smN ow 255 = y := ⟨_, rfl⟩
    have HY0 : Hid (smN ow 255 = y0) := hy0
    obtain ⟨y1, hy1⟩ : ∃ y, smN oc 255 = y := ⟨_, rfl⟩
    have HY1 : Hid (smN oc 255 = y1) := hy1
    obtain ⟨y2, hy2⟩ : ∃ y, smN ov 65535 = y := ⟨_, rfl⟩
    have HY2 : Hid (smN ov 65535 = y2) := hy2
    obtain ⟨y, hy⟩ : ∃ y, (y0 && (y1 && y2)) = y := ⟨_, rfl⟩
    have HY : Hid ((y0 && (y1 && y2)) = y) := hy
    have HO : Hid (omB ⟨3, oid, ⟨ec, et, ex, em, ek, ee⟩, ot, om, ow, oc, ov, ds⟩ = (y && smO ⟨0, oid, ⟨ec, et, ex, em, ek, ee⟩, ot, om, 0, 0, 0, ds⟩ owZ)) := by show _ = _; rw [om_3, hy0, hy1, hy2, hy]; rfl
    clear hy hy0 hy1 hy2
    go_upto_region 18 with fail
    go_cut [4] from 72 to 84 (fun s4 wc => s4 = .bool y ∧ wc = W2)
    case first =>
      go_wp2_with fail
      refine (small_any ow 255 _).mono ?_
      rintro e w4 ⟨rfl, hw4⟩
      obtain rfl := hw4.symm
      rw [HY0.out]
      cases y0
      · go_wp2_with fail; go_meet; exact ⟨by rw [← HY.out]; rfl, rfl⟩
      go_wp2_with fail
      refine (small_any oc 255 _).mono ?_
      rintro e w4 ⟨rfl, hw4⟩
      obtain rfl := hw4.symm
      rw [HY1.out]
      cases y1
      · go_wp2_with fail; go_meet; exact ⟨by rw [← HY.out]; rfl, rfl⟩
      go_wp2_with fail
      refine (small_any ov 65535 _).mono ?_
      rintro e w4 ⟨rfl, hw4⟩
      obtain rfl := hw4.symm
      rw [HY2.out]
      go_wp2_with fail; go_meet; exact ⟨by rw [← HY.out]; rfl, rfl⟩
    case rest =>
      obtain ⟨rfl, hwc⟩ := hcut
      obtain rfl := hwc.symm
      clear e10 e11 e12 HY HY0 HY1 HY2
      have m10 : W2.cell? ⟨qr, 10, none⟩ = some (.int .i64 ow) := HG0.out.1.cell rfl
      have f10 : W2.frozen? ⟨qr, 10, none⟩ = false := HG0.out.1.frz (by simp)
      have m11 : W2.cell? ⟨qr, 11, none⟩ = some (.int .i64 oc) := HG0.out.1.cell rfl
      have f11 : W2.frozen? ⟨qr, 11, none⟩ = false := HG0.out.1.frz (by simp)
      have m12 : W2.cell? ⟨qr, 12, none⟩ = some (.int .i64 ov) := HG0.out.1.cell rfl
      have f12 : W2.frozen? ⟨qr, 12, none⟩ = false := HG0.out.1.frz (by simp)
      go_upto_region 29 with fail
      have HG : Hid (Bk (((W2.setCell ⟨qr, 10, none⟩ (.int .i64 0)).setCell ⟨qr, 11, none⟩ (.int .i64 0)).setCell ⟨qr, 12, none⟩ (.int .i64 0)) qr [.int .i64 0, .int .i64 oid, .int .i64 ec, .int .i64 et, .int .i64 ex, .int .i64 em, .int .i64 ek, .int .i64 ee, .int .i64 ot, .int .i64 om, .int .i64 0, .int .i64 0, .int .i64 0, dv] ∧ Below w.heap.size w (((W2.setCell ⟨qr, 10, none⟩ (.int .i64 0)).setCell ⟨qr, 11, none⟩ (.int .i64 0)).setCell ⟨qr, 12, none⟩ (.int .i64 0))) := ⟨(((HG0.out.1.set 10 _).set 11 _).set 12 _), (((HG0.out.2.2.1.setCell (p := ⟨qr, 10, none⟩) (Nat.le_of_lt HG0.out.2.2.2) _).setCell (p := ⟨qr, 11, none⟩) (Nat.le_of_lt HG0.out.2.2.2) _).setCell (p := ⟨qr, 12, none⟩) (Nat.le_of_lt HG0.out.2.2.2) _)⟩
      clear HG0 e0 m10 f10 m11 f11 m12 f12
      generalize (((W2.setCell ⟨qr, 10, none⟩ (.int .i64 0)).setCell ⟨qr, 11, none⟩ (.int .i64 0)).setCell ⟨qr, 12, none⟩ (.int .i64 0)) = W3 at *
      have hl1 := HG.out.1.lt
      go_wp2_with (refine load_bk rfl 26 _ rfl qr 0 [.int .i64 0, .int .i64 oid, .int .i64 ec, .int .i64 et, .int .i64 ex, .int .i64 em, .int .i64 ek, .int .i64 ee, .int .i64 ot, .int .i64 om, .int .i64 0, .int .i64 0, .int .i64 0, dv] [.int .i64 0, .int .i64 oid, .int .i64 ec, .int .i64 et, .int .i64 ex, .int .i64 em, .int .i64 ek, .int .i64 ee, .int .i64 ot, .int .i64 om, .int .i64 0, .int .i64 0, .int .i64 0, dv] rfl HG.out.1 rfl _ Try.underlying26 rfl (by kernel_rfl) ?_)
      refine (osame_any 0 oid ec et ex em ek ee ot om 0 0 0 dv 0 0 0 0 0 0 0 0 0 0 0 0 0 (.slice none 0 0) ds [] _ (HN.out.1 _ HG.out.2) (Nums_nil _) (HN.out.2) (by simp)).mono ?_
      rintro e w9 ⟨rfl, hb9⟩
      have HE : Hid (Below w.heap.size w w9) := HG.out.2.trans (hb9.mono HG.out.2.size)
      clear hb9
      cases y with
      | false => go_wp2; go_ret; exact ⟨ret_b (by rw [HO.out]; rfl), HE.out⟩
      | true => go_wp2; go_ret; exact ⟨ret_b (by rw [HO.out]; rfl), HE.out⟩
  by_cases k4 : ok = 4
  · obtain rfl : (4 : Int) = ok := k4.symm
    clear k0 k1 k2 k3 k4
    obtain ⟨y, hy⟩ : ∃ y, (decide (ds.length ≤ 4) && inD ds) = y := ⟨_, rfl⟩
    have HY : Hid ((decide (ds.length ≤ 4) && inD ds) = y) := hy
    have HO : Hid (omB ⟨4, oid, ⟨ec, et, ex, em, ek, ee⟩, ot, om, ow, oc, ov, ds⟩ = (y && smO ⟨0, oid, ⟨ec, et, ex, em, ek, ee⟩, ot, om, ow, oc, ov, []⟩ owZ)) := by show _ = _; rw [om_4, hy]; rfl
    clear hy
    obtain ⟨a', cap', hdv, h1, h2, h5⟩ := HN.out.1 _ HG0.out.2.2.1
    clear HDV
    subst hdv
    have hln := HN.out.2
    have e13 : W2.cell? ⟨w.heap.size, 13, none⟩ = some (.slice a' ds.length cap') := HG0.out.2.1.cell rfl
    go_wp2_with fail
    go_loopw [4, 6] (fun s4 i wr => ∃ (j : Nat) (b : Bool), j ≤ ds.length ∧ i = .int .i64 j ∧ s4 = .bool b ∧ Hid (b = (decide (ds.length ≤ 4) && inD (ds.take j))) ∧ wr = W2) (fun _ i _ => ((ds.length : Int) - intOf i).toNat)
    case atStart => exact ⟨0, _, by omega, by go_num, rfl, by show _ = _; rw [Bool.eq_iff_iff]; simp [inD] <;> omega, rfl⟩
    case round =>
      obtain ⟨j, bj, hj, rfl, rfl, HBJ, hwr⟩ := hrel
      obtain rfl := hwr.symm
      by_cases hjn : j < ds.length
      · have hjn' : (j : Int) < ds.length := by omega
        obtain ⟨bk, o, rfl, h6⟩ := h5 (by intro e; rw [e] at hjn; simp at hjn)
        obtain ⟨x, hx⟩ : ∃ x, ds.getD j 0 = x := ⟨_, rfl⟩
        have c := h6 j hjn
        rw [hx] at c
        have HS : Hid (inD (ds.take (j + 1)) = (inD (ds.take j) && decide (1 ≤ x ∧ x ≤ 20))) := by
          show _ = _
          rw [List.take_add_one, List.getElem?_eq_getElem hjn, ← hx, List.getD_eq_getElem?_getD, List.getElem?_eq_getElem hjn]
          exact inD_snoc _ _
        clear hx h5 h6
        cases bj with
        | false =>
          have HB : Hid (false = (decide (ds.length ≤ 4) && inD (ds.take (j + 1)))) := by
            show _ = _
            have := HBJ.out
            rw [HS.out]
            rw [← Bool.and_assoc, ← this]; rfl
          clear HBJ HS
          go_wp2_with fail
          go_roundw
          case rel => exact ⟨j + 1, false, by omega, by go_num, rfl, HB.out, by trivial⟩
          case measure => simp [intOf]; omega
        | true =>
          have hb2 := HBJ.out.symm
          rw [Bool.and_eq_true] at hb2
          have HB : Hid ((decide (ds.length ≤ 4) && inD (ds.take (j + 1))) = decide (1 ≤ x ∧ x ≤ 20)) := by
            show _ = _
            rw [HS.out, hb2.1, hb2.2]; rfl
          clear HBJ HS hb2
          by_cases c1 : 1 ≤ x
          · go_wp2_with fail
            go_roundw
            case rel => exact ⟨j + 1, _, by omega, by go_num, rfl, by show _ = _; rw [HB.out, Bool.eq_iff_iff]; simp [c1], by trivial⟩
            case measure => simp [intOf]; omega
          · go_wp2_with fail
            go_roundw
            case rel => exact ⟨j + 1, false, by omega, by go_num, rfl, by show _ = _; rw [HB.out]; simp [c1], by trivial⟩
            case measure => simp [intOf]; omega
      · have hjn' : ¬ (j : Int) < ds.length := by omega
        obtain rfl : bj = y := by
          have := HBJ.out
          rw [List.take_of_length_le (by omega), HY.out] at this
          exact this
        clear HBJ h5
        have m13 : W2.cell? ⟨qr, 13, none⟩ = some (.slice a' ds.length cap') := HG0.out.1.cell rfl
        have f13 : W2.frozen? ⟨qr, 13, none⟩ = false := HG0.out.1.frz (by simp)
        go_upto_region 29 with fail
        have HG : Hid (Bk (W2.setCell ⟨qr, 13, none⟩ (.slice none 0 0)) qr [.int .i64 0, .int .i64 oid, .int .i64 ec, .int .i64 et, .int .i64 ex, .int .i64 em, .int .i64 ek, .int .i64 ee, .int .i64 ot, .int .i64 om, .int .i64 ow, .int .i64 oc, .int .i64 ov, .slice none 0 0] ∧ Below w.heap.size w (W2.setCell ⟨qr, 13, none⟩ (.slice none 0 0))) := ⟨HG0.out.1.set 13 _, HG0.out.2.2.1.setCell (p := ⟨qr, 13, none⟩) (Nat.le_of_lt HG0.out.2.2.2) _⟩
        clear HG0 e0 e13 m13 f13
        generalize (W2.setCell ⟨qr, 13, none⟩ (.slice none 0 0)) = W3 at *
        have hl1 := HG.out.1.lt
        go_wp2_with (refine load_bk rfl 26 _ rfl qr 0 [.int .i64 0, .int .i64 oid, .int .i64 ec, .int .i64 et, .int .i64 ex, .int .i64 em, .int .i64 ek, .int .i64 ee, .int .i64 ot, .int .i64 om, .int .i64 ow, .int .i64 oc, .int .i64 ov, .slice none 0 0] [.int .i64 0, .int .i64 oid, .int .i64 ec, .int .i64 et, .int .i64 ex, .int .i64 em, .int .i64 ek, .int .i64 ee, .int .i64 ot, .int .i64 om, .int .i64 ow, .int .i64 oc, .int .i64 ov, .slice none 0 0] rfl HG.out.1 rfl _ Try.underlying26 rfl (by kernel_rfl) ?_)
        refine (osame_any 0 oid ec et ex em ek ee ot om ow oc ov (.slice none 0 0) 0 0 0 0 0 0 0 0 0 0 0 0 0 (.slice none 0 0) [] [] _ (Nums_nil _) (Nums_nil _) (by simp) (by simp)).mono ?_
        rintro e w9 ⟨rfl, hb9⟩
        have HE : Hid (Below w.heap.size w w9) := HG.out.2.trans (hb9.mono HG.out.2.size)
        clear hb9
        cases bj with
        | false => go_wp2; go_ret; exact ⟨ret_b (by rw [HO.out]; rfl), HE.out⟩
        | true => go_wp2; go_ret; exact ⟨ret_b (by rw [HO.out]; rfl), HE.out⟩
  · have q0 : (ok == 0) = false := by simpa using k0
    have q1 : (ok == 1) = false := by simpa using k1
    have q2 : (ok == 2) = false := by simpa using k2
    have q3 : (ok == 3) = false := by simpa using k3
    have q4 : (ok == 4) = false := by simpa using k4
    obtain ⟨y, hy⟩ : ∃ y, y = false := ⟨_, rfl⟩
    have HO : Hid (omB ⟨ok, oid, ⟨ec, et, ex, em, ek, ee⟩, ot, om, ow, oc, ov, ds⟩ = false) := om_x k0 k1 k2 k3 k4
    clear k0 k1 k2 k3 k4
    go_upto_region 29 with fail
    have HG : Hid (Bk W2 qr [.int .i64 0, .int .i64 oid, .int .i64 ec, .int .i64 et, .int .i64 ex, .int .i64 em, .int .i64 ek, .int .i64 ee, .int .i64 ot, .int .i64 om, .int .i64 ow, .int .i64 oc, .int .i64 ov, dv] ∧ Below w.heap.size w W2) := ⟨HG0.out.1, HG0.out.2.2.1⟩
    clear HG0 e0 hy q0 q1 q2 q3 q4
    have hl1 := HG.out.1.lt
    go_wp2_with (refine load_bk rfl 26 _ rfl qr 0 [.int .i64 0, .int .i64 oid, .int .i64 ec, .int .i64 et, .int .i64 ex, .int .i64 em, .int .i64 ek, .int .i64 ee, .int .i64 ot, .int .i64 om, .int .i64 ow, .int .i64 oc, .int .i64 ov, dv] [.int .i64 0, .int .i64 oid, .int .i64 ec, .int .i64 et, .int .i64 ex, .int .i64 em, .int .i64 ek, .int .i64 ee, .int .i64 ot, .int .i64 om, .int .i64 ow, .int .i64 oc, .int .i64 ov, dv] rfl HG.out.1 rfl _ Try.underlying26 rfl (by kernel_rfl) ?_)
    refine (osame_any 0 oid ec et ex em ek ee ot om ow oc ov dv 0 0 0 0 0 0 0 0 0 0 0 0 0 (.slice none 0 0) ds [] _ (HN.out.1 _ HG.out.2) (Nums_nil _) (HN.out.2) (by simp)).mono ?_
    rintro e w9 ⟨rfl, hb9⟩
    have HE : Hid (Below w.heap.size w w9) := HG.out.2.trans (hb9.mono HG.out.2.size)
    clear hb9
    go_wp2; go_ret; exact ⟨ret_b HO.out.symm, HE.out⟩
end Go.Proofs.Yteklcolphbcjlaa
/- Walks of package spec: what sets a description's numbers. -/
namespace Go.Proofs.Yteklcolphbcjlaa
open Go.RowKit

/-- The description that bytes tell; if they are not six, one that may not be. -/
def gotS (ks : List Int) : Sp := if ks.length = 6 then ⟨ks.getD 0 0, ks.getD 1 0, ks.getD 2 0, ks.getD 3 0, ks.getD 4 0, ks.getD 5 0⟩ else spZ
theorem spZ_no : maySp spZ = false := by decide
theorem len6 {ks : List Int} (h : ks.length = 6) : ∃ k0 k1 k2 k3 k4 k5, ks = [k0, k1, k2, k3, k4, k5] := by
  match ks, h with
  | [k0, k1, k2, k3, k4, k5], _ => exact ⟨k0, k1, k2, k3, k4, k5, rfl⟩
end Go.Proofs.Yteklcolphbcjlaa
/- Bytes that are appended to; what bytes tell. -/
namespace Go.Proofs.Yteklcolphbcjlaa
open Go.RowKit

/-- Bytes, as cells. -/
def bv8 (xs : List Int) : List Value := xs.map (Value.int .u8)
theorem bv8_len (xs : List Int) : (bv8 xs).length = xs.length := by simp [bv8]
theorem bv8_app (xs ys : List Int) : bv8 (xs ++ ys) = bv8 xs ++ bv8 ys := by simp [bv8]
theorem bv8_one (xs : List Int) : ∀ u ∈ bv8 xs, u.oneCell' = true := by
  intro u hu; obtain ⟨t, _, rfl⟩ := List.mem_map.1 hu; rfl
theorem bv8_at {xs : List Int} {i : Nat} (h : i < xs.length) : (bv8 xs)[i]? = some (.int .u8 (xs.getD i 0)) := by
  unfold bv8; rw [List.getElem?_map, List.getElem?_eq_getElem h]; simp [List.getD, h]

/-- Bytes of the call's own are read. -/
theorem Bys.own {w : World} {base : Nat} {v : Value} {n : Nat} {xs : List Int} (h : w.ownsRow base 5 1 v n (bv8 xs)) (hn : n = xs.length) (hx : ∀ i, i < xs.length → 0 ≤ xs.getD i 0 ∧ xs.getD i 0 ≤ 255) : Bys w v xs := by
  subst hn
  have hcs := fun g hg => h.cells (g := g) hg
  obtain ⟨_, ⟨rfl, hz⟩ | ⟨g, cap, cur, rfl, hb, hh, h1, h2, _⟩⟩ := h
  · obtain rfl : xs = [] := List.eq_nil_of_length_eq_zero hz
    exact Bys.none w
  · refine ⟨_, cap, rfl, h1, h2, (fun h => by cases h), hx, fun _ => ⟨g, 0, rfl, fun i hi => ?_⟩⟩
    have := hcs g rfl i _ (bv8_at hi)
    cases i with
    | zero => simpa [Addr.add] using this
    | succ i => simpa [Addr.add] using this

/-- One list of bytes, the call's own, gets another one behind it. -/
theorem append_bys {w : World} {ops : Array Oper} {rest : List Oper} {o : Oper} {act : Act} {Q : Exit → Act → World → Prop} (hgd : o.guard = Option.none) (s x : Operand)
    (ho : o.op = .call { callee := .builtin .append, args := #[s, x], argTypes := #[27, 27] }) (base : Nat) (v u : Value) (n : Nat) (xs ys : List Int)
    (hs : act.eval s = v) (hown : w.ownsRow base 5 1 v n (bv8 xs)) (hx : act.eval x = u) (hr : Bys w u ys) (hn : n + ys.length ≤ 100000) (hbase : base ≤ w.heap.size)
    (h : ∀ v' w', w'.ownsRow base 5 1 v' (n + ys.length) (bv8 (xs ++ ys)) → Below base w w' → wpList Try.prog ops Q rest (act.put o.dst v') w') : wpList Try.prog ops Q (o :: rest) act w := by
  obtain ⟨i0, hi, hz0, hz1, hz2⟩ := info_parts Try.infoU8
  have hlow := hown.lt
  obtain ⟨a, cap, rfl, h1, h2, hcap, _, h3⟩ := hr
  have m1 : n + ys.length ≤ maxLen := by unfold maxLen; omega
  cases ys with
  | nil =>
    cases a with
    | none =>
      obtain rfl := hcap rfl
      refine wpList_append_own_none hgd s x 27 ho base 5 i0 1 Try.underlying27 hi v n (bv8 xs) hs hown hx ?_
      exact h v w (by simpa using hown) (Below.refl _ _)
    | some ad =>
      refine wpList_append_own w hgd s x 27 ho base 5 i0 (.int .u8 0) 1 1 Try.underlying27 hi hz0 hz1 hz2 rfl (by decide) v n (bv8 xs) hs hown ad 0 cap [] hx rfl (by simp) (by simp) m1 (by simp; omega) hbase ?_
      intro v' w' g1 g2 _
      exact h v' w' (by simpa using g1) ((Below.refl _ _).grown g2 hbase fun k hk => (hlow k hk).1)
  | cons y ys =>
    obtain ⟨b, oo, rfl, h4⟩ := h3 (by simp)
    refine wpList_append_own w hgd s x 27 ho base 5 i0 (.int .u8 0) 1 1 Try.underlying27 hi hz0 hz1 hz2 rfl (by decide) v n (bv8 xs) hs hown ⟨b, oo, Option.none⟩ (y :: ys).length cap (bv8 (y :: ys)) hx (by rw [bv8_len]; omega) ?_ (bv8_one _) m1 (by omega) hbase ?_
    · intro j q hq
      have hj : j < (y :: ys).length := by have := (List.getElem?_eq_some_iff.1 hq).1; rwa [bv8_len] at this
      rw [bv8_at hj] at hq
      rw [← hq, Go.WideShapes.add_plain]
      exact h4 j hj
    · intro v' w' g1 g2 _
      rw [← bv8_app] at g1
      exact h v' w' g1 ((Below.refl _ _).grown g2 hbase fun k hk => (hlow k hk).1)

theorem got_lst (s : Sp) : gotS (lst s) = s := rfl
theorem got_more (s : Sp) (n : Int) : gotS (lst s ++ [n]) = spZ := rfl
theorem lst_got {ks : List Int} (h : maySp (gotS ks) = true) : lst (gotS ks) = ks ∧ ks.length = 6 := by
  unfold gotS at h ⊢
  by_cases hl : ks.length = 6
  · rw [if_pos hl]
    obtain ⟨k0, k1, k2, k3, k4, k5, rfl⟩ := len6 hl
    exact ⟨rfl, rfl⟩
  · rw [if_neg hl, spZ_no] at h; cases h
end Go.Proofs.Yteklcolphbcjlaa
/- The document's own Answer. -/
namespace Go.Proofs.Yteklcolphbcjlaa
open Go.RowKit

/-- Bytes of the call's own. -/
def OwY (w : World) (base : Nat) (v : Value) (xs : List Int) : Prop := w.ownsRow base 5 1 v xs.length (bv8 xs)
theorem OwY.nil (w : World) (base : Nat) : OwY w base (.slice none 0 0) [] := World.ownsRow_nil _ _ _ _
theorem OwY.later {w w' : World} {base : Nat} {v : Value} {xs : List Int} (h : OwY w base v xs) (hb : Below w.heap.size w w') : OwY w' base v xs := own_laterF h hb
theorem OwY.lower {w : World} {B B' : Nat} {v : Value} {xs : List Int} (h : OwY w B v xs) (hb : B' ≤ B) : OwY w B' v xs := by
  obtain ⟨h0, h1 | ⟨g, cap, cur, h2, h3, h4⟩⟩ := h
  · exact ⟨h0, .inl h1⟩
  · exact ⟨h0, .inr ⟨g, cap, cur, h2, Nat.le_trans hb h3, h4⟩⟩
theorem Bk.keep {w w' : World} {B q : Nat} {l : List Value} (h : Bk w q l) (hb : Below B w w') (hq : q < B) : Bk w' q l := fun i hi => ⟨(hb.cell (p := ⟨q, i, none⟩) hq).trans (h i hi).1, (hb.frozen (p := ⟨q, i, none⟩) hq).trans (h i hi).2⟩
theorem bys_one (w : World) (x : Int) (h : 0 ≤ x ∧ x ≤ 255) : Bys (w.alloc (.cells #[.int .u8 x] 5)) (.slice (some ⟨w.heap.size, 0, none⟩) 1 1) [x] := by
  refine ⟨_, 1, rfl, Nat.le_refl _, by unfold maxLen; omega, (fun e => by cases e), fun i hi => ?_, fun _ => ⟨w.heap.size, 0, rfl, fun i hi => ?_⟩⟩
  · obtain rfl : i = 0 := by
      have : i < 1 := hi
      omega
    exact h
  · obtain rfl : i = 0 := by
      have : i < 1 := hi
      omega
    simp
theorem owy_one (w : World) (base : Nat) (x : Int) (hb : base ≤ w.heap.size) : OwY (w.alloc (.cells #[.int .u8 x] 5)) base (.slice (some ⟨w.heap.size, 0, none⟩) 1 1) [x] :=
  World.ownsRow_lit (base := base) (e := 5) (size := 1) w #[.int .u8 x] 1 hb (by decide) rfl
def anO (e n : Int) : List Int := bif anB e n then anL e n else []
def AnsE (e n : Int) (w : World) (r : Ending) (w' : World) : Prop := ∃ v, r = .returned (.tuple #[v, .bool (anB e n)]) ∧ OwY w' w.heap.size v (anO e n) ∧ Below w.heap.size w w'
def kkN (j : Nat) : Int := if j = 0 then 1099511627776 else if j = 1 then 4294967296 else if j = 2 then 16777216 else if j = 3 then 65536 else if j = 4 then 256 else if j = 5 then 1 else 0
set_option maxHeartbeats 4000000 in
set_option maxRecDepth 100000 in
theorem roans_any (e n : Int) (w : World) :
    Calls Try.prog 14 #[.agg #[.int .i64 e, .int .i64 n]] w (AnsE e n w) := by
  have HB : Hid (Bk (w.alloc (.cells #[.int .i64 e, .int .i64 n] 30)) w.heap.size [.int .i64 e, .int .i64 n] ∧ Below w.heap.size w (w.alloc (.cells #[.int .i64 e, .int .i64 n] 30))) := ⟨Bk.new w _ _, below_b1 _ _⟩
  by_cases c1 : e < 0
  · have HR : Hid (anB e n = false) := by show _ = _; unfold anB; exact decide_eq_false (by omega)
    go_enter Try.func14, Try.ntmps14
    go_wp2; go_ret2; exact ⟨_, by rw [HR.out]; rfl, by unfold anO; rw [HR.out]; exact OwY.nil _ _, HB.out.2⟩
  by_cases c2 : 8 < e
  · have HR : Hid (anB e n = false) := by show _ = _; unfold anB; exact decide_eq_false (by omega)
    go_enter Try.func14, Try.ntmps14
    go_wp2; go_ret2; exact ⟨_, by rw [HR.out]; rfl, by unfold anO; rw [HR.out]; exact OwY.nil _ _, HB.out.2⟩
  by_cases c3 : n < 0
  · have HR : Hid (anB e n = false) := by show _ = _; unfold anB; exact decide_eq_false (by omega)
    go_enter Try.func14, Try.ntmps14
    go_wp2; go_ret2; exact ⟨_, by rw [HR.out]; rfl, by unfold anO; rw [HR.out]; exact OwY.nil _ _, HB.out.2⟩
  by_cases c4 : (1099511627776 : Int) < n
  · have HR : Hid (anB e n = false) := by show _ = _; unfold anB; exact decide_eq_false (by omega)
    go_enter Try.func14, Try.ntmps14
    go_wp2; go_ret2; exact ⟨_, by rw [HR.out]; rfl, by unfold anO; rw [HR.out]; exact OwY.nil _ _, HB.out.2⟩
  have HR : Hid (anB e n = true) := by show _ = _; unfold anB; exact decide_eq_true (by omega)
  have HV : Hid (0 ≤ e ∧ e ≤ 8 ∧ 0 ≤ n ∧ n ≤ 1099511627776) := ⟨by omega, by omega, by omega, by omega⟩
  have hwe : IntKind.u8.wrap e = e := by rw [IntKind.wrap_u8]; omega
  go_enter Try.func14, Try.ntmps14
  go_wp2_with fail
  go_loopw [4, 5] (fun v4 k wr => ∃ (j : Nat), j ≤ 6 ∧ k = .int .i64 (kkN j) ∧ Hid (OwY wr (w.heap.size + 1) v4 ((anL e n).take (j + 1)) ∧ Bk wr w.heap.size [.int .i64 e, .int .i64 n] ∧ Below w.heap.size w wr)) (fun _ k _ => (intOf k).toNat)
  case atStart => exact ⟨0, by omega, rfl, ⟨(by have h := owy_one (w.alloc (.cells #[.int .i64 e, .int .i64 n] 30)) (w.heap.size + 1) e (by simp); simp only [World.size_alloc] at h; exact h), HB.out.1.later (below_b1 _ _), HB.out.2.alloc HB.out.2.size _⟩⟩
  case round =>
    obtain ⟨j, hj, rfl, HX⟩ := hrel
    have e1 : wr.cell? ⟨w.heap.size, 1, none⟩ = some (.int .i64 n) := HX.out.2.1.cell rfl
    rcases (show j = 0 ∨ j = 1 ∨ j = 2 ∨ j = 3 ∨ j = 4 ∨ j = 5 ∨ j = 6 by omega) with rfl | rfl | rfl | rfl | rfl | rfl | rfl
    · have hk : kkN 0 = 1099511627776 := rfl
      rw [hk]
      clear hk
      obtain ⟨d, hd⟩ : ∃ d, n / 1099511627776 = d := ⟨_, rfl⟩
      obtain ⟨g, hg⟩ : ∃ g, d % 256 = g := ⟨_, rfl⟩
      have t1 : n.tdiv 1099511627776 = d := by rw [Int.tdiv_eq_ediv_of_nonneg HV.out.2.2.1]; exact hd
      have hv := HV.out
      have d0 : 0 ≤ d ∧ d ≤ 1099511627776 := by omega
      have t2 : d.tmod 256 = g := by rw [Int.tmod_eq_emod_of_nonneg d0.1]; exact hg
      have g0 : 0 ≤ g ∧ g ≤ 255 := by omega
      have t3 : IntKind.i64.wrap d = d := by rw [IntKind.wrap_i64]; omega
      have t4 : IntKind.u8.wrap g = g := by rw [IntKind.wrap_u8]; omega
      have t5 : IntKind.i64.wrap g = g := by rw [IntKind.wrap_i64]; omega
      have HL : Hid ((anL e n).take (0 + 1) ++ [g] = (anL e n).take (1 + 1)) := by show [e] ++ [g] = _; rw [← hg, ← hd]; rfl
      have HG : Hid (0 ≤ g ∧ g ≤ 255) := g0
      clear hd hg hv d0 g0
      go_wp2_with (first | (at_builtin; refine append_bys rfl _ _ rfl (w.heap.size + 1) u4 _ ((anL e n).take (0 + 1)).length ((anL e n).take (0 + 1)) [g] rfl (HX.out.1.later (below_b1 _ _)) rfl (bys_one _ _ HG.out) (by simp [anL]) (by have := HX.out.2.1.lt; simp; omega) ?_; intro v9 w9 ho9 hb9))
      have HY : Hid (OwY w9 (w.heap.size + 1) v9 ((anL e n).take (1 + 1)) ∧ Bk w9 w.heap.size [.int .i64 e, .int .i64 n] ∧ Below w.heap.size w w9) := by
        have h := ho9
        rw [HL.out] at h
        exact ⟨(by unfold OwY; simpa [anL] using h), (HX.out.2.1.later (below_b1 _ _)).keep hb9 (by omega), (HX.out.2.2.alloc HX.out.2.2.size _).trans (hb9.mono (by omega))⟩
      clear HX ho9 hb9 HL HG
      go_wp2_with fail
      go_roundw
      case rel => exact ⟨1, by omega, rfl, HY.out⟩
      case measure => simp [intOf]
    · have hk : kkN 1 = 4294967296 := rfl
      rw [hk]
      clear hk
      obtain ⟨d, hd⟩ : ∃ d, n / 4294967296 = d := ⟨_, rfl⟩
      obtain ⟨g, hg⟩ : ∃ g, d % 256 = g := ⟨_, rfl⟩
      have t1 : n.tdiv 4294967296 = d := by rw [Int.tdiv_eq_ediv_of_nonneg HV.out.2.2.1]; exact hd
      have hv := HV.out
      have d0 : 0 ≤ d ∧ d ≤ 1099511627776 := by omega
      have t2 : d.tmod 256 = g := by rw [Int.tmod_eq_emod_of_nonneg d0.1]; exact hg
      have g0 : 0 ≤ g ∧ g ≤ 255 := by omega
      have t3 : IntKind.i64.wrap d = d := by rw [IntKind.wrap_i64]; omega
      have t4 : IntKind.u8.wrap g = g := by rw [IntKind.wrap_u8]; omega
      have t5 : IntKind.i64.wrap g = g := by rw [IntKind.wrap_i64]; omega
      have HL : Hid ((anL e n).take (1 + 1) ++ [g] = (anL e n).take (2 + 1)) := by show [e, n / 1099511627776 % 256] ++ [g] = _; rw [← hg, ← hd]; rfl
      have HG : Hid (0 ≤ g ∧ g ≤ 255) := g0
      clear hd hg hv d0 g0
      go_wp2_with (first | (at_builtin; refine append_bys rfl _ _ rfl (w.heap.size + 1) u4 _ ((anL e n).take (1 + 1)).length ((anL e n).take (1 + 1)) [g] rfl (HX.out.1.later (below_b1 _ _)) rfl (bys_one _ _ HG.out) (by simp [anL]) (by have := HX.out.2.1.lt; simp; omega) ?_; intro v9 w9 ho9 hb9))
      have HY : Hid (OwY w9 (w.heap.size + 1) v9 ((anL e n).take (2 + 1)) ∧ Bk w9 w.heap.size [.int .i64 e, .int .i64 n] ∧ Below w.heap.size w w9) := by
        have h := ho9
        rw [HL.out] at h
        exact ⟨(by unfold OwY; simpa [anL] using h), (HX.out.2.1.later (below_b1 _ _)).keep hb9 (by omega), (HX.out.2.2.alloc HX.out.2.2.size _).trans (hb9.mono (by omega))⟩
      clear HX ho9 hb9 HL HG
      go_wp2_with fail
      go_roundw
      case rel => exact ⟨2, by omega, rfl, HY.out⟩
      case measure => simp [intOf]
    · have hk : kkN 2 = 16777216 := rfl
      rw [hk]
      clear hk
      obtain ⟨d, hd⟩ : ∃ d, n / 16777216 = d := ⟨_, rfl⟩
      obtain ⟨g, hg⟩ : ∃ g, d % 256 = g := ⟨_, rfl⟩
      have t1 : n.tdiv 16777216 = d := by rw [Int.tdiv_eq_ediv_of_nonneg HV.out.2.2.1]; exact hd
      have hv := HV.out
      have d0 : 0 ≤ d ∧ d ≤ 1099511627776 := by omega
      have t2 : d.tmod 256 = g := by rw [Int.tmod_eq_emod_of_nonneg d0.1]; exact hg
      have g0 : 0 ≤ g ∧ g ≤ 255 := by omega
      have t3 : IntKind.i64.wrap d = d := by rw [IntKind.wrap_i64]; omega
      have t4 : IntKind.u8.wrap g = g := by rw [IntKind.wrap_u8]; omega
      have t5 : IntKind.i64.wrap g = g := by rw [IntKind.wrap_i64]; omega
      have HL : Hid ((anL e n).take (2 + 1) ++ [g] = (anL e n).take (3 + 1)) := by show [e, n / 1099511627776 % 256, n / 4294967296 % 256] ++ [g] = _; rw [← hg, ← hd]; rfl
      have HG : Hid (0 ≤ g ∧ g ≤ 255) := g0
      clear hd hg hv d0 g0
      go_wp2_with (first | (at_builtin; refine append_bys rfl _ _ rfl (w.heap.size + 1) u4 _ ((anL e n).take (2 + 1)).length ((anL e n).take (2 + 1)) [g] rfl (HX.out.1.later (below_b1 _ _)) rfl (bys_one _ _ HG.out) (by simp [anL]) (by have := HX.out.2.1.lt; simp; omega) ?_; intro v9 w9 ho9 hb9))
      have HY : Hid (OwY w9 (w.heap.size + 1) v9 ((anL e n).take (3 + 1)) ∧ Bk w9 w.heap.size [.int .i64 e, .int .i64 n] ∧ Below w.heap.size w w9) := by
        have h := ho9
        rw [HL.out] at h
        exact ⟨(by unfold OwY; simpa [anL] using h), (HX.out.2.1.later (below_b1 _ _)).keep hb9 (by omega), (HX.out.2.2.alloc HX.out.2.2.size _).trans (hb9.mono (by omega))⟩
      clear HX ho9 hb9 HL HG
      go_wp2_with fail
      go_roundw
      case rel => exact ⟨3, by omega, rfl, HY.out⟩
      case measure => simp [intOf]
    · have hk : kkN 3 = 65536 := rfl
      rw [hk]
      clear hk
      obtain ⟨d, hd⟩ : ∃ d, n / 65536 = d := ⟨_, rfl⟩
      obtain ⟨g, hg⟩ : ∃ g, d % 256 = g := ⟨_, rfl⟩
      have t1 : n.tdiv 65536 = d := by rw [Int.tdiv_eq_ediv_of_nonneg HV.out.2.2.1]; exact hd
      have hv := HV.out
      have d0 : 0 ≤ d ∧ d ≤ 1099511627776 := by omega
      have t2 : d.tmod 256 = g := by rw [Int.tmod_eq_emod_of_nonneg d0.1]; exact hg
      have g0 : 0 ≤ g ∧ g ≤ 255 := by omega
      have t3 : IntKind.i64.wrap d = d := by rw [IntKind.wrap_i64]; omega
      have t4 : IntKind.u8.wrap g = g := by rw [IntKind.wrap_u8]; omega
      have t5 : IntKind.i64.wrap g = g := by rw [IntKind.wrap_i64]; omega
      have HL : Hid ((anL e n).take (3 + 1) ++ [g] = (anL e n).take (4 + 1)) := by show [e, n / 1099511627776 % 256, n / 4294967296 % 256, n / 16777216 % 256] ++ [g] = _; rw [← hg, ← hd]; rfl
      have HG : Hid (0 ≤ g ∧ g ≤ 255) := g0
      clear hd hg hv d0 g0
      go_wp2_with (first | (at_builtin; refine append_bys rfl _ _ rfl (w.heap.size + 1) u4 _ ((anL e n).take (3 + 1)).length ((anL e n).take (3 + 1)) [g] rfl (HX.out.1.later (below_b1 _ _)) rfl (bys_one _ _ HG.out) (by simp [anL]) (by have := HX.out.2.1.lt; simp; omega) ?_; intro v9 w9 ho9 hb9))
      have HY : Hid (OwY w9 (w.heap.size + 1) v9 ((anL e n).take (4 + 1)) ∧ Bk w9 w.heap.size [.int .i64 e, .int .i64 n] ∧ Below w.heap.size w w9) := by
        have h := ho9
        rw [HL.out] at h
        exact ⟨(by unfold OwY; simpa [anL] using h), (HX.out.2.1.later (below_b1 _ _)).keep hb9 (by omega), (HX.out.2.2.alloc HX.out.2.2.size _).trans (hb9.mono (by omega))⟩
      clear HX ho9 hb9 HL HG
      go_wp2_with fail
      go_roundw
      case rel => exact ⟨4, by omega, rfl, HY.out⟩
      case measure => simp [intOf]
    · have hk : kkN 4 = 256 := rfl
      rw [hk]
      clear hk
      obtain ⟨d, hd⟩ : ∃ d, n / 256 = d := ⟨_, rfl⟩
      obtain ⟨g, hg⟩ : ∃ g, d % 256 = g := ⟨_, rfl⟩
      have t1 : n.tdiv 256 = d := by rw [Int.tdiv_eq_ediv_of_nonneg HV.out.2.2.1]; exact hd
      have hv := HV.out
      have d0 : 0 ≤ d ∧ d ≤ 1099511627776 := by omega
      have t2 : d.tmod 256 = g := by rw [Int.tmod_eq_emod_of_nonneg d0.1]; exact hg
      have g0 : 0 ≤ g ∧ g ≤ 255 := by omega
      have t3 : IntKind.i64.wrap d = d := by rw [IntKind.wrap_i64]; omega
      have t4 : IntKind.u8.wrap g = g := by rw [IntKind.wrap_u8]; omega
      have t5 : IntKind.i64.wrap g = g := by rw [IntKind.wrap_i64]; omega
      have HL : Hid ((anL e n).take (4 + 1) ++ [g] = (anL e n).take (5 + 1)) := by show [e, n / 1099511627776 % 256, n / 4294967296 % 256, n / 16777216 % 256, n / 65536 % 256] ++ [g] = _; rw [← hg, ← hd]; rfl
      have HG : Hid (0 ≤ g ∧ g ≤ 255) := g0
      clear hd hg hv d0 g0
      go_wp2_with (first | (at_builtin; refine append_bys rfl _ _ rfl (w.heap.size + 1) u4 _ ((anL e n).take (4 + 1)).length ((anL e n).take (4 + 1)) [g] rfl (HX.out.1.later (below_b1 _ _)) rfl (bys_one _ _ HG.out) (by simp [anL]) (by have := HX.out.2.1.lt; simp; omega) ?_; intro v9 w9 ho9 hb9))
      have HY : Hid (OwY w9 (w.heap.size + 1) v9 ((anL e n).take (5 + 1)) ∧ Bk w9 w.heap.size [.int .i64 e, .int .i64 n] ∧ Below w.heap.size w w9) := by
        have h := ho9
        rw [HL.out] at h
        exact ⟨(by unfold OwY; simpa [anL] using h), (HX.out.2.1.later (below_b1 _ _)).keep hb9 (by omega), (HX.out.2.2.alloc HX.out.2.2.size _).trans (hb9.mono (by omega))⟩
      clear HX ho9 hb9 HL HG
      go_wp2_with fail
      go_roundw
      case rel => exact ⟨5, by omega, rfl, HY.out⟩
      case measure => simp [intOf]
    · have hk : kkN 5 = 1 := rfl
      rw [hk]
      clear hk
      obtain ⟨d, hd⟩ : ∃ d, n / 1 = d := ⟨_, rfl⟩
      obtain ⟨g, hg⟩ : ∃ g, d % 256 = g := ⟨_, rfl⟩
      have t1 : n.tdiv 1 = d := by rw [Int.tdiv_eq_ediv_of_nonneg HV.out.2.2.1]; exact hd
      have hv := HV.out
      have d0 : 0 ≤ d ∧ d ≤ 1099511627776 := by omega
      have t2 : d.tmod 256 = g := by rw [Int.tmod_eq_emod_of_nonneg d0.1]; exact hg
      have g0 : 0 ≤ g ∧ g ≤ 255 := by omega
      have t3 : IntKind.i64.wrap d = d := by rw [IntKind.wrap_i64]; omega
      have t4 : IntKind.u8.wrap g = g := by rw [IntKind.wrap_u8]; omega
      have t5 : IntKind.i64.wrap g = g := by rw [IntKind.wrap_i64]; omega
      have HL : Hid ((anL e n).take (5 + 1) ++ [g] = (anL e n).take (6 + 1)) := by show [e, n / 1099511627776 % 256, n / 4294967296 % 256, n / 16777216 % 256, n / 65536 % 256, n / 256 % 256] ++ [g] = _; rw [← hg, ← hd]; simp [anL]
      have HG : Hid (0 ≤ g ∧ g ≤ 255) := g0
      clear hd hg hv d0 g0
      go_wp2_with (first | (at_builtin; refine append_bys rfl _ _ rfl (w.heap.size + 1) u4 _ ((anL e n).take (5 + 1)).length ((anL e n).take (5 + 1)) [g] rfl (HX.out.1.later (below_b1 _ _)) rfl (bys_one _ _ HG.out) (by simp [anL]) (by have := HX.out.2.1.lt; simp; omega) ?_; intro v9 w9 ho9 hb9))
      have HY : Hid (OwY w9 (w.heap.size + 1) v9 ((anL e n).take (6 + 1)) ∧ Bk w9 w.heap.size [.int .i64 e, .int .i64 n] ∧ Below w.heap.size w w9) := by
        have h := ho9
        rw [HL.out] at h
        exact ⟨(by unfold OwY; simpa [anL] using h), (HX.out.2.1.later (below_b1 _ _)).keep hb9 (by omega), (HX.out.2.2.alloc HX.out.2.2.size _).trans (hb9.mono (by omega))⟩
      clear HX ho9 hb9 HL HG
      go_wp2_with fail
      go_roundw
      case rel => exact ⟨6, by omega, rfl, HY.out⟩
      case measure => simp [intOf]
    · have hk : kkN 6 = 0 := rfl
      rw [hk]
      clear hk
      go_wp2_with fail
      go_ret2
      exact ⟨_, by rw [HR.out]; rfl, by unfold anO; rw [HR.out]; exact HX.out.1.lower (by omega), HX.out.2.2⟩
end Go.Proofs.Yteklcolphbcjlaa
