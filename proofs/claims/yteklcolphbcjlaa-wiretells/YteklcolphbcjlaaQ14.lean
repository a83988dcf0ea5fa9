/- Texts that belong together, one behind the other: BB13, BB14, BB15, BB16, BB17. -/
import Derived.Test.YteklcolphbcjlaaQ13
import Derived.Maps.AppendAt
/- Walks of package wire: May of a tick; of all. -/
namespace Go.Proofs.Yteklcolphbcjlaa
open Go.RowKit

set_option maxHeartbeats 8000000 in
set_option maxRecDepth 100000 in
theorem wmay16_4 (oid ec et ex em ek ee ot om ow oc ov : Int) (dv : Value) (ds : List Int) (w : World) (h : Nums w dv ds)  :
    Calls Try.prog 19 #[.agg #[.int .i64 4, .int .i64 oid, .int .i64 ec, .int .i64 et, .int .i64 ex, .int .i64 em, .int .i64 ek, .int .i64 ee, .int .i64 ot, .int .i64 om, .int .i64 ow, .int .i64 oc, .int .i64 ov, dv]] w fun e w' => e = .returned (.bool (omB ⟨4, oid, ⟨ec, et, ex, em, ek, ee⟩, ot, om, ow, oc, ov, ds⟩)) ∧ Below w.heap.size w w' := by
  obtain ⟨a, zn, cap, rfl⟩ : ∃ a z c, dv = .slice a z c := by obtain ⟨a, c, e, _⟩ := h; exact ⟨a, _, c, e⟩
  have HN : Hid (∀ y, Below w.heap.size w y → Nums y (.slice a zn cap) ds) := fun y hy => h.later hy
  have HM : Hid (omB ⟨4, oid, ⟨ec, et, ex, em, ek, ee⟩, ot, om, ow, oc, ov, ds⟩ = ((decide (ds.length ≤ 4) && inD ds) && smO ⟨4, oid, ⟨ec, et, ex, em, ek, ee⟩, ot, om, ow, oc, ov, []⟩ ⟨4, 0, ⟨0, 0, 0, 0, 0, 0⟩, 0, 0, 0, 0, 0, []⟩)) := om_4k
  have HB : Hid (Bk (w.alloc (.cells #[.int .i64 4, .int .i64 oid, .int .i64 ec, .int .i64 et, .int .i64 ex, .int .i64 em, .int .i64 ek, .int .i64 ee, .int .i64 ot, .int .i64 om, .int .i64 ow, .int .i64 oc, .int .i64 ov, .slice a zn cap] 26)) w.heap.size [.int .i64 4, .int .i64 oid, .int .i64 ec, .int .i64 et, .int .i64 ex, .int .i64 em, .int .i64 ek, .int .i64 ee, .int .i64 ot, .int .i64 om, .int .i64 ow, .int .i64 oc, .int .i64 ov, .slice a zn cap] ∧ Below w.heap.size w (w.alloc (.cells #[.int .i64 4, .int .i64 oid, .int .i64 ec, .int .i64 et, .int .i64 ex, .int .i64 em, .int .i64 ek, .int .i64 ee, .int .i64 ot, .int .i64 om, .int .i64 ow, .int .i64 oc, .int .i64 ov, .slice a zn cap] 26))) := ⟨Bk.new w _ _, below_b1 _ _⟩
  have e0 := HB.out.1.cell (i := 0) rfl
  have HT : Hid (wtB 4 0 4 = true) := rfl
  clear h
  go_enter Try.func19, Try.ntmps19
  go_upto_region 1 with fail
  generalize (w.alloc (.cells #[.int .i64 4, .int .i64 oid, .int .i64 ec, .int .i64 et, .int .i64 ex, .int .i64 em, .int .i64 ek, .int .i64 ee, .int .i64 ot, .int .i64 om, .int .i64 ow, .int .i64 oc, .int .i64 ov, .slice a zn cap] 26)) = W at *
  go_wp2_with fail
  refine (wtn_any 4 0 4 _).mono ?_
  rintro e w2 ⟨rfl, rfl⟩
  rw [HT.out]
  have hlw := HB.out.1.lt
  go_wp2_with (refine load_bk rfl 26 _ rfl w.heap.size 0 [.int .i64 4, .int .i64 oid, .int .i64 ec, .int .i64 et, .int .i64 ex, .int .i64 em, .int .i64 ek, .int .i64 ee, .int .i64 ot, .int .i64 om, .int .i64 ow, .int .i64 oc, .int .i64 ov, .slice a zn cap] [.int .i64 4, .int .i64 oid, .int .i64 ec, .int .i64 et, .int .i64 ex, .int .i64 em, .int .i64 ek, .int .i64 ee, .int .i64 ot, .int .i64 om, .int .i64 ow, .int .i64 oc, .int .i64 ov, .slice a zn cap] rfl HB.out.1 rfl _ Try.underlying26 rfl (by kernel_rfl) ?_)
  have HC : Hid (Bk (w2.alloc (.cells #[.int .i64 4, .int .i64 oid, .int .i64 ec, .int .i64 et, .int .i64 ex, .int .i64 em, .int .i64 ek, .int .i64 ee, .int .i64 ot, .int .i64 om, .int .i64 ow, .int .i64 oc, .int .i64 ov, .slice a zn cap] 26)) w.heap.size [.int .i64 4, .int .i64 oid, .int .i64 ec, .int .i64 et, .int .i64 ex, .int .i64 em, .int .i64 ek, .int .i64 ee, .int .i64 ot, .int .i64 om, .int .i64 ow, .int .i64 oc, .int .i64 ov, .slice a zn cap] ∧ Bk (w2.alloc (.cells #[.int .i64 4, .int .i64 oid, .int .i64 ec, .int .i64 et, .int .i64 ex, .int .i64 em, .int .i64 ek, .int .i64 ee, .int .i64 ot, .int .i64 om, .int .i64 ow, .int .i64 oc, .int .i64 ov, .slice a zn cap] 26)) w2.heap.size [.int .i64 4, .int .i64 oid, .int .i64 ec, .int .i64 et, .int .i64 ex, .int .i64 em, .int .i64 ek, .int .i64 ee, .int .i64 ot, .int .i64 om, .int .i64 ow, .int .i64 oc, .int .i64 ov, .slice a zn cap] ∧ Below w.heap.size w (w2.alloc (.cells #[.int .i64 4, .int .i64 oid, .int .i64 ec, .int .i64 et, .int .i64 ex, .int .i64 em, .int .i64 ek, .int .i64 ee, .int .i64 ot, .int .i64 om, .int .i64 ow, .int .i64 oc, .int .i64 ov, .slice a zn cap] 26))) := ⟨HB.out.1.later (below_b1 _ _), Bk.new _ _ _, HB.out.2.trans ((below_b1 _ _).mono HB.out.2.size)⟩
  have HS2 : Hid (w.heap.size < w2.heap.size) := hlw
  generalize hW3 : (w2.alloc (.cells #[.int .i64 4, .int .i64 oid, .int .i64 ec, .int .i64 et, .int .i64 ex, .int .i64 em, .int .i64 ek, .int .i64 ee, .int .i64 ot, .int .i64 om, .int .i64 ow, .int .i64 oc, .int .i64 ov, .slice a zn cap] 26)) = W3 at *
  have HS3 : Hid (W3.heap.size = w2.heap.size + 1) := by show _ = _; rw [← hW3]; simp
  clear hW3
  refine (had_any 4 _).mono ?_
  rintro e w4 ⟨v4, q, rfl, ho4, hw4, hb4⟩
  have ho5 : OwP w4 W3.heap.size v4 [none] := ho4
  rcases ho5.rd with ⟨hz, _⟩ | ⟨g, cap4, rfl, hg, hc4, hbk⟩
  · cases hz
  have HG : Hid (w2.heap.size < g) := by have := HS3.out; show _ < _; omega
  have HX : Hid (Bk w4 w.heap.size [.int .i64 4, .int .i64 oid, .int .i64 ec, .int .i64 et, .int .i64 ex, .int .i64 em, .int .i64 ek, .int .i64 ee, .int .i64 ot, .int .i64 om, .int .i64 ow, .int .i64 oc, .int .i64 ov, .slice a zn cap] ∧ Bk w4 g [.func (.func 51) #[] #[], .func (.func 54) #[] #[], .func (.func 55) #[] #[], .func (.func 56) #[] #[]] ∧ Below w.heap.size w w4 ∧ Bk w4 w2.heap.size [.int .i64 4, .int .i64 oid, .int .i64 ec, .int .i64 et, .int .i64 ex, .int .i64 em, .int .i64 ek, .int .i64 ee, .int .i64 ot, .int .i64 om, .int .i64 ow, .int .i64 oc, .int .i64 ov, .slice a zn cap]) := ⟨HC.out.1.later hb4, hbk, HC.out.2.2.trans (hb4.mono HC.out.2.2.size), HC.out.2.1.later hb4⟩
  clear ho4 ho5 hw4 hb4 hbk hg hc4 HC HB
  go_wp2_with fail
  go_loopw [15] (fun iv wr => (iv = .int .i64 0 ∧ Hid (Bk wr w.heap.size [.int .i64 4, .int .i64 oid, .int .i64 ec, .int .i64 et, .int .i64 ex, .int .i64 em, .int .i64 ek, .int .i64 ee, .int .i64 ot, .int .i64 om, .int .i64 ow, .int .i64 oc, .int .i64 ov, .slice a zn cap] ∧ Bk wr g [.func (.func 51) #[] #[], .func (.func 54) #[] #[], .func (.func 55) #[] #[], .func (.func 56) #[] #[]] ∧ Below w.heap.size w wr ∧ Bk wr w2.heap.size [.int .i64 4, .int .i64 oid, .int .i64 ec, .int .i64 et, .int .i64 ex, .int .i64 em, .int .i64 ek, .int .i64 ee, .int .i64 ot, .int .i64 om, .int .i64 ow, .int .i64 oc, .int .i64 ov, .slice a zn cap])) ∨ (iv = .int .i64 1 ∧ Hid (Bk wr w.heap.size [.int .i64 4, .int .i64 oid, .int .i64 ec, .int .i64 et, .int .i64 ex, .int .i64 em, .int .i64 ek, .int .i64 ee, .int .i64 ot, .int .i64 om, .int .i64 ow, .int .i64 oc, .int .i64 ov, .slice a zn cap] ∧ (decide (ds.length ≤ 4) && inD ds) = true ∧ Below w.heap.size w wr ∧ Bk wr w2.heap.size [.int .i64 4, .int .i64 oid, .int .i64 ec, .int .i64 et, .int .i64 ex, .int .i64 em, .int .i64 ek, .int .i64 ee, .int .i64 ot, .int .i64 om, .int .i64 ow, .int .i64 oc, .int .i64 ov, .slice none 0 0]))) (fun iv _ => (1 - intOf iv).toNat)
  case atStart => exact .inl ⟨by go_num, HX⟩
  case round =>
    clear HX e0
    rcases hrel with ⟨rfl, HR⟩ | ⟨rfl, HR⟩
    · have HA : Hid (Bk (wr.alloc (.cells #[.func (.func 51) #[] #[], .func (.func 54) #[] #[], .func (.func 55) #[] #[], .func (.func 56) #[] #[]] 52)) w.heap.size [.int .i64 4, .int .i64 oid, .int .i64 ec, .int .i64 et, .int .i64 ex, .int .i64 em, .int .i64 ek, .int .i64 ee, .int .i64 ot, .int .i64 om, .int .i64 ow, .int .i64 oc, .int .i64 ov, .slice a zn cap] ∧ Bk (wr.alloc (.cells #[.func (.func 51) #[] #[], .func (.func 54) #[] #[], .func (.func 55) #[] #[], .func (.func 56) #[] #[]] 52)) wr.heap.size [.func (.func 51) #[] #[], .func (.func 54) #[] #[], .func (.func 55) #[] #[], .func (.func 56) #[] #[]] ∧ Below w.heap.size w (wr.alloc (.cells #[.func (.func 51) #[] #[], .func (.func 54) #[] #[], .func (.func 55) #[] #[], .func (.func 56) #[] #[]] 52)) ∧ Bk (wr.alloc (.cells #[.func (.func 51) #[] #[], .func (.func 54) #[] #[], .func (.func 55) #[] #[], .func (.func 56) #[] #[]] 52)) w2.heap.size [.int .i64 4, .int .i64 oid, .int .i64 ec, .int .i64 et, .int .i64 ex, .int .i64 em, .int .i64 ek, .int .i64 ee, .int .i64 ot, .int .i64 om, .int .i64 ow, .int .i64 oc, .int .i64 ov, .slice a zn cap]) := ⟨HR.out.1.later (below_b1 _ _), Bk.new _ _ _, HR.out.2.2.1.trans ((below_b1 _ _).mono HR.out.2.2.1.size), HR.out.2.2.2.later (below_b1 _ _)⟩
      obtain ⟨y, hy⟩ : ∃ y, (decide (ds.length ≤ 4) && inD ds) = y := ⟨_, rfl⟩
      have HY : Hid ((decide (ds.length ≤ 4) && inD ds) = y) := hy
      clear hy
      go_wp2_with (first
        | (refine load_bk rfl 52 _ rfl g 0 [.func (.func 51) #[] #[], .func (.func 54) #[] #[], .func (.func 55) #[] #[], .func (.func 56) #[] #[]] [.func (.func 51) #[] #[], .func (.func 54) #[] #[], .func (.func 55) #[] #[], .func (.func 56) #[] #[]] rfl HR.out.2.1 rfl _ Try.underlying52 rfl (by kernel_rfl) ?_)
        | (refine load_bk rfl 26 _ rfl w.heap.size 0 [.int .i64 4, .int .i64 oid, .int .i64 ec, .int .i64 et, .int .i64 ex, .int .i64 em, .int .i64 ek, .int .i64 ee, .int .i64 ot, .int .i64 om, .int .i64 ow, .int .i64 oc, .int .i64 ov, .slice a zn cap] [.int .i64 4, .int .i64 oid, .int .i64 ec, .int .i64 et, .int .i64 ex, .int .i64 em, .int .i64 ek, .int .i64 ee, .int .i64 ot, .int .i64 om, .int .i64 ow, .int .i64 oc, .int .i64 ov, .slice a zn cap] rfl HA.out.1 rfl _ Try.underlying26 rfl (by kernel_rfl) ?_))
      refine (lmay_any 4 oid ec et ex em ek ee ot om ow oc ov (.slice a zn cap) ds _ (HN.out _ HA.out.2.2.1)).mono ?_
      rintro e w5 ⟨rfl, hb5⟩
      rw [HY.out]
      have HE : Hid (Bk w5 w.heap.size [.int .i64 4, .int .i64 oid, .int .i64 ec, .int .i64 et, .int .i64 ex, .int .i64 em, .int .i64 ek, .int .i64 ee, .int .i64 ot, .int .i64 om, .int .i64 ow, .int .i64 oc, .int .i64 ov, .slice a zn cap] ∧ Bk w5 wr.heap.size [.func (.func 51) #[] #[], .func (.func 54) #[] #[], .func (.func 55) #[] #[], .func (.func 56) #[] #[]] ∧ Below w.heap.size w w5 ∧ Bk w5 w2.heap.size [.int .i64 4, .int .i64 oid, .int .i64 ec, .int .i64 et, .int .i64 ex, .int .i64 em, .int .i64 ek, .int .i64 ee, .int .i64 ot, .int .i64 om, .int .i64 ow, .int .i64 oc, .int .i64 ov, .slice a zn cap]) := ⟨HA.out.1.later hb5, HA.out.2.1.later hb5, HA.out.2.2.1.trans (hb5.mono HA.out.2.2.1.size), HA.out.2.2.2.later hb5⟩
      clear hb5 HA
      cases y with
      | false =>
        have HF : Hid (omB ⟨4, oid, ⟨ec, et, ex, em, ek, ee⟩, ot, om, ow, oc, ov, ds⟩ = false) := by show _ = _; rw [HM.out, HY.out]; rfl
        go_wp2_with fail
        go_ret
        exact ⟨ret_b HF.out.symm, HE.out.2.2.1⟩
      | true =>
        have e1 := HE.out.2.1.cell (i := 1) rfl
        have hlr : wr.heap.size < w5.heap.size := HE.out.2.1.lt
        have c13 := HE.out.2.2.2.cell (i := 13) rfl
        have f13 := HE.out.2.2.2.frz (i := 13) (by simp)
        go_wp2_with fail
        refine (lclr_any w2.heap.size _ _ c13 f13).mono ?_
        rintro e w6 ⟨rfl, rfl⟩
        have HF : Hid (Bk (w5.setCell ⟨w2.heap.size, 13, none⟩ (.slice none 0 0)) w.heap.size [.int .i64 4, .int .i64 oid, .int .i64 ec, .int .i64 et, .int .i64 ex, .int .i64 em, .int .i64 ek, .int .i64 ee, .int .i64 ot, .int .i64 om, .int .i64 ow, .int .i64 oc, .int .i64 ov, .slice a zn cap] ∧ (decide (ds.length ≤ 4) && inD ds) = true ∧ Below w.heap.size w (w5.setCell ⟨w2.heap.size, 13, none⟩ (.slice none 0 0)) ∧ Bk (w5.setCell ⟨w2.heap.size, 13, none⟩ (.slice none 0 0)) w2.heap.size [.int .i64 4, .int .i64 oid, .int .i64 ec, .int .i64 et, .int .i64 ex, .int .i64 em, .int .i64 ek, .int .i64 ee, .int .i64 ot, .int .i64 om, .int .i64 ow, .int .i64 oc, .int .i64 ov, .slice none 0 0]) := ⟨HE.out.1.other (by have := HS2.out; omega) _, HY.out, HE.out.2.2.1.setCell (p := ⟨w2.heap.size, 13, none⟩) (by show w.heap.size ≤ w2.heap.size; have := HS2.out; omega) _, HE.out.2.2.2.set 13 _⟩
        generalize (w5.setCell ⟨w2.heap.size, 13, none⟩ (.slice none 0 0)) = w6 at *
        clear HE e1 c13 f13
        go_wp2_with fail
        go_roundw
        case rel => exact .inr ⟨by go_num, HF⟩
        case measure => simp [intOf]
    · have HF : Hid (omB ⟨4, oid, ⟨ec, et, ex, em, ek, ee⟩, ot, om, ow, oc, ov, ds⟩ = smO ⟨4, oid, ⟨ec, et, ex, em, ek, ee⟩, ot, om, ow, oc, ov, []⟩ ⟨4, 0, ⟨0, 0, 0, 0, 0, 0⟩, 0, 0, 0, 0, 0, []⟩) := by show _ = _; rw [HM.out, HR.out.2.1]; rfl
      have e0 := HR.out.1.cell (i := 0) rfl
      go_wp2_with (refine load_bk rfl 26 _ rfl w2.heap.size 0 [.int .i64 4, .int .i64 oid, .int .i64 ec, .int .i64 et, .int .i64 ex, .int .i64 em, .int .i64 ek, .int .i64 ee, .int .i64 ot, .int .i64 om, .int .i64 ow, .int .i64 oc, .int .i64 ov, .slice none 0 0] [.int .i64 4, .int .i64 oid, .int .i64 ec, .int .i64 et, .int .i64 ex, .int .i64 em, .int .i64 ek, .int .i64 ee, .int .i64 ot, .int .i64 om, .int .i64 ow, .int .i64 oc, .int .i64 ov, .slice none 0 0] rfl HR.out.2.2.2 rfl _ Try.underlying26 rfl (by kernel_rfl) ?_)
      refine (wsm_any 4 oid ec et ex em ek ee ot om ow oc ov (.slice none 0 0) 4 0 0 0 0 0 0 0 0 0 0 0 0 (.slice none 0 0) [] [] _ (Nums_nil _) (Nums_nil _)).mono ?_
      rintro e w7 ⟨rfl, hb7⟩
      rw [← HF.out]
      have HZ := HR.out.2.2.1.trans (hb7.mono HR.out.2.2.1.size)
      clear hb7 HR HF e0
      go_wp2_with fail
      go_ret
      exact ⟨rfl, HZ⟩
set_option maxHeartbeats 2000000 in
set_option maxRecDepth 100000 in
theorem wmay16_any (ok oid ec et ex em ek ee ot om ow oc ov : Int) (dv : Value) (ds : List Int) (w : World) (h : Nums w dv ds) :
    Calls Try.prog 19 #[.agg #[.int .i64 ok, .int .i64 oid, .int .i64 ec, .int .i64 et, .int .i64 ex, .int .i64 em, .int .i64 ek, .int .i64 ee, .int .i64 ot, .int .i64 om, .int .i64 ow, .int .i64 oc, .int .i64 ov, dv]] w fun e w' => e = .returned (.bool (omB ⟨ok, oid, ⟨ec, et, ex, em, ek, ee⟩, ot, om, ow, oc, ov, ds⟩)) ∧ Below w.heap.size w w' := by
  by_cases k3 : 0 ≤ ok ∧ ok ≤ 3
  · exact wmay16_0 ok oid ec et ex em ek ee ot om ow oc ov dv ds w h k3
  by_cases k4 : ok = 4
  · subst k4
    exact wmay16_4 oid ec et ex em ek ee ot om ow oc ov dv ds w h
  have hno : ¬ (0 ≤ ok ∧ ok ≤ 4) := by omega
  have HF : Hid (omB ⟨ok, oid, ⟨ec, et, ex, em, ek, ee⟩, ot, om, ow, oc, ov, ds⟩ = false) := om_far hno
  have HT : Hid (wtB ok 0 4 = false) := by show _ = _; exact decide_eq_false hno
  have HB : Hid (Bk (w.alloc (.cells #[.int .i64 ok, .int .i64 oid, .int .i64 ec, .int .i64 et, .int .i64 ex, .int .i64 em, .int .i64 ek, .int .i64 ee, .int .i64 ot, .int .i64 om, .int .i64 ow, .int .i64 oc, .int .i64 ov, dv] 26)) w.heap.size [.int .i64 ok, .int .i64 oid, .int .i64 ec, .int .i64 et, .int .i64 ex, .int .i64 em, .int .i64 ek, .int .i64 ee, .int .i64 ot, .int .i64 om, .int .i64 ow, .int .i64 oc, .int .i64 ov, dv] ∧ Below w.heap.size w (w.alloc (.cells #[.int .i64 ok, .int .i64 oid, .int .i64 ec, .int .i64 et, .int .i64 ex, .int .i64 em, .int .i64 ek, .int .i64 ee, .int .i64 ot, .int .i64 om, .int .i64 ow, .int .i64 oc, .int .i64 ov, dv] 26))) := ⟨Bk.new w _ _, below_b1 _ _⟩
  have e0 := HB.out.1.cell (i := 0) rfl
  clear h k3 k4 hno
  go_enter Try.func19, Try.ntmps19
  go_upto_region 1 with fail
  generalize (w.alloc (.cells #[.int .i64 ok, .int .i64 oid, .int .i64 ec, .int .i64 et, .int .i64 ex, .int .i64 em, .int .i64 ek, .int .i64 ee, .int .i64 ot, .int .i64 om, .int .i64 ow, .int .i64 oc, .int .i64 ov, dv] 26)) = W at *
  go_wp2_with fail
  refine (wtn_any ok 0 4 _).mono ?_
  rintro e w2 ⟨rfl, rfl⟩
  rw [HT.out]
  go_wp2_with fail
  go_ret
  exact ⟨ret_b HF.out.symm, HB.out.2⟩
end Go.Proofs.Yteklcolphbcjlaa
/- Walks of package wire: Put. -/
namespace Go.Proofs.Yteklcolphbcjlaa
open Go.RowKit

/-- The bytes of parts that are numbers. -/
def bpL (o : Ow) (L : List Nat) : List Int := L.flatMap fun i => dgP (pvN o i) (siN i) (siN i)
theorem bpL_next (o : Ow) {L : List Nat} {t i : Nat} (h : L[t]? = some i) : bpL o (L.take (t + 1)) = bpL o (L.take t) ++ dgP (pvN o i) (siN i) (siN i) := by
  unfold bpL; rw [List.take_add_one, h, List.flatMap_append]; simp
theorem dgP_bd (n : Int) (S : Nat) : ∀ i, i < (dgP n S S).length → 0 ≤ (dgP n S S).getD i 0 ∧ (dgP n S S).getD i 0 ≤ 255 := by
  intro i hi
  rw [dgP_len] at hi
  unfold dgP
  rw [List.getD_eq_getElem?_getD, List.getElem?_map, List.getElem?_range hi]
  show 0 ≤ (if S - S ≤ i then n / 256 ^ (S - 1 - i) % 256 else 0) ∧ (if S - S ≤ i then n / 256 ^ (S - 1 - i) % 256 else 0) ≤ 255
  split
  · omega
  · omega
theorem dg_two (n : Int) (h : 0 ≤ n ∧ n ≤ 65535) : dgP n 2 2 = [n / 256, n % 256] := by
  have e : dgP n 2 2 = [n / 256 % 256, n / 1 % 256] := rfl
  rw [e]
  have e1 : n / 256 % 256 = n / 256 := by omega
  have e2 : n / 1 % 256 = n % 256 := by omega
  rw [e1, e2]
theorem wt_255 {n : Int} (h : wtB n 0 255 = true) : 0 ≤ n ∧ n ≤ 255 := of_decide_eq_true h
theorem wt_65535 {n : Int} (h : wtB n 0 65535 = true) : 0 ≤ n ∧ n ≤ 65535 := of_decide_eq_true h
theorem bp_ob {ok oid ec et ex em ek ee ot om ow oc ov : Int} {ds : List Int} (hk : 0 ≤ ok ∧ ok ≤ 3) (h : omB ⟨ok, oid, ⟨ec, et, ex, em, ek, ee⟩, ot, om, ow, oc, ov, ds⟩ = true) : [ok] ++ bpL ⟨ok, oid, ⟨ec, et, ex, em, ek, ee⟩, ot, om, ow, oc, ov, ds⟩ (ixs ok) = obL ⟨ok, oid, ⟨ec, et, ex, em, ek, ee⟩, ot, om, ow, oc, ov, ds⟩ := by
  rcases (show ok = 0 ∨ ok = 1 ∨ ok = 2 ∨ ok = 3 by omega) with rfl | rfl | rfl | rfl
  · rw [om_0] at h
    have h1 := of_decide_eq_true (Bool.and_eq_true_iff.1 h).1
    simp only at h1
    show [(0 : Int)] ++ (dgP ec 1 1 ++ (dgP et 1 1 ++ (dgP ex 1 1 ++ (dgP em 1 1 ++ (dgP ek 1 1 ++ (dgP ee 1 1 ++ [])))))) = [0, ec, et, ex, em, ek, ee]
    rw [dg_one ec (by omega), dg_one et (by omega), dg_one ex (by omega), dg_one em (by omega), dg_one ek (by omega), dg_one ee (by omega)]
    rfl
  · rw [om_1] at h
    have h1 := (Bool.and_eq_true_iff.1 h).1
    have h2 := Bool.and_eq_true_iff.1 h1
    have h3 := Bool.and_eq_true_iff.1 h2.2
    have a1 := of_decide_eq_true h2.1
    have a2 := of_decide_eq_true h3.1
    have a3 := of_decide_eq_true h3.2
    show [(1 : Int)] ++ (dgP oid 2 2 ++ (dgP ot 1 1 ++ (dgP om 1 1 ++ []))) = [1, oid / 256, oid % 256, ot, om]
    rw [dg_two oid a1, dg_one ot a2, dg_one om a3]
    rfl
  · rw [om_2] at h
    have a1 := of_decide_eq_true (Bool.and_eq_true_iff.1 h).1
    show [(2 : Int)] ++ (dgP oid 2 2 ++ []) = [2, oid / 256, oid % 256]
    rw [dg_two oid a1]
    rfl
  · rw [om_3] at h
    have h1 := (Bool.and_eq_true_iff.1 h).1
    have h2 := Bool.and_eq_true_iff.1 h1
    have h3 := Bool.and_eq_true_iff.1 h2.2
    have a1 := of_decide_eq_true h2.1
    have a2 := of_decide_eq_true h3.1
    have a3 := of_decide_eq_true h3.2
    show [(3 : Int)] ++ (dgP ow 1 1 ++ (dgP oc 1 1 ++ (dgP ov 2 2 ++ []))) = [3, ow, oc, ov / 256, ov % 256]
    rw [dg_one ow a1, dg_one oc a2, dg_two ov a3]
    rfl
theorem append_at {w : World} {ops : Array Oper} {rest : List Oper} {o : Oper} {act : Act} {Q : Exit → Act → World → Prop} (hgd : o.guard = Option.none) (s x : Operand)
    (ho : o.op = .call { callee := .builtin .append, args := #[s, x], argTypes := #[27, 27] }) (base : Nat) (v u : Value) (xs ys : List Int)
    (hs : act.eval s = v) (hown : OwY w base v xs) (hx : act.eval x = u) (hr : Bys w u ys) (hy : ys ≠ []) (hn : xs.length + ys.length ≤ 100000) (hbase : base ≤ w.heap.size)
    (h : ∀ v' w', OwY w' base v' (xs ++ ys) → w.grownBy w' v.ownBlock → (v'.ownBlock = v.ownBlock ∨ v'.ownBlock = some w.heap.size) → wpList Try.prog ops Q rest (act.put o.dst v') w') : wpList Try.prog ops Q (o :: rest) act w := by
  obtain ⟨i0, hi, hz0, hz1, hz2⟩ := info_parts Try.infoU8
  obtain ⟨a, cap, rfl, h1, h2, hcap, _, h3⟩ := hr
  have m1 : xs.length + ys.length ≤ maxLen := by unfold maxLen; omega
  obtain ⟨b, oo, rfl, h4⟩ := h3 hy
  refine wpList_append_own_at w hgd s x 27 ho base 5 i0 _ 1 1 Try.underlying27 hi hz0 hz1 hz2 rfl (by decide) v xs.length (bv8 xs) hs hown ⟨b, oo, Option.none⟩ ys.length cap (bv8 ys) hx (by rw [bv8_len]; omega) (fun j q hq => ?_) (bv8_one _) m1 (by omega) hbase ?_
  · have hj : j < ys.length := by have := (List.getElem?_eq_some_iff.1 hq).1; rwa [bv8_len] at this
    rw [bv8_at hj] at hq
    rw [← hq, Go.WideShapes.add_plain]
    exact h4 j hj
  · intro v' w' g1 g2 _ g3
    refine h v' w' ?_ g2 g3
    rw [← bv8_app] at g1
    unfold OwY
    rw [List.length_append]
    exact g1
theorem Bk.away {w w' : World} {q : Nat} {row : Option Nat} {l : List Value} (h : Bk w q l) (hg : w.grownBy w' row) (hne : row ≠ some q) : Bk w' q l := by
  intro i hi
  obtain ⟨h1, h2⟩ := h i hi
  have hu : l[i]? = some l[i] := List.getElem?_eq_getElem hi
  rw [hu] at h1
  have hlt : q < w.heap.size := World.block_lt_of_cell? _ _ h1
  have e := hg.block q hlt (fun e => hne e.symm)
  refine ⟨?_, ?_⟩
  · rw [hu, ← h1]; unfold World.cell?; rw [e]
  · rw [← h2]; unfold World.frozen?; rw [e]
/-- A row is none of what must stay. -/
def Apt (v : Value) (q : Nat → Nat) (b g : Nat) : Prop := ∀ k, v.ownBlock = some k → k ≠ b ∧ k ≠ g ∧ ∀ i, i < 12 → k ≠ q i ∧ k ≠ q i + 1
/-- What holds when the bytes of the first parts are there. -/
def PuR (o : Ow) (dv : Value) (ps : List (Option Nat)) (q : Nat → Nat) (b g : Nat) (w wr : World) (v : Value) (xs : List Int) : Prop := OwY wr (b + 1) v xs ∧ Bk wr b (oL o dv) ∧ Bk wr g (fl ps) ∧ (∀ i, i < 12 → Wh wr (q i) i) ∧ Below b w wr ∧ Apt v q b g
theorem PuR.later {o : Ow} {dv : Value} {ps : List (Option Nat)} {q : Nat → Nat} {b g : Nat} {w wr y : World} {v : Value} {xs : List Int} (h : PuR o dv ps q b g w wr v xs) (hb : Below wr.heap.size wr y) : PuR o dv ps q b g w y v xs :=
  ⟨h.1.later hb, h.2.1.later hb, h.2.2.1.later hb, fun i hi => (h.2.2.2.1 i hi).later hb, h.2.2.2.2.1.trans (hb.mono (Nat.le_of_lt h.2.1.lt)), h.2.2.2.2.2⟩
theorem PuR.step {o : Ow} {dv : Value} {p : Option Nat} {ps : List (Option Nat)} {q : Nat → Nat} {b g : Nat} {w wr y : World} {v v' : Value} {xs ys : List Int} (h : PuR o dv (p :: ps) q b g w wr v xs) (ho : OwY y (b + 1) v' ys) (hg : wr.grownBy y v.ownBlock) (hv : v'.ownBlock = v.ownBlock ∨ v'.ownBlock = some wr.heap.size) : PuR o dv (p :: ps) q b g w y v' ys := by
  obtain ⟨h1, h2, h3, h4, h5, h6⟩ := h
  have hgl : g < wr.heap.size := by
    have : fl (p :: ps) = pr p ++ fl ps := rfl
    rw [this] at h3
    cases p <;> exact h3.lt
  refine ⟨ho, h2.away hg (fun e => (h6 _ e).1 rfl), h3.away hg (fun e => (h6 _ e).2.1 rfl), fun i hi => ?_, ?_, fun k hk => ?_⟩
  · obtain ⟨e1, K, e2, e3⟩ := h4 i hi
    exact ⟨e1.away hg (fun e => ((h6 _ e).2.2 i hi).1 rfl), K, e2, e3.away hg (fun e => ((h6 _ e).2.2 i hi).2 rfl)⟩
  · exact h5.grown hg (Nat.le_of_lt h2.lt) (fun k hk => by have := h1.low15 k hk; omega)
  · rcases hv with hv | hv
    · exact h6 k (hv ▸ hk)
    · rw [hv] at hk
      cases hk
      refine ⟨Nat.ne_of_gt h2.lt, Nat.ne_of_gt hgl, fun i hi => ?_⟩
      obtain ⟨e1, K, e2, e3⟩ := h4 i hi
      exact ⟨Nat.ne_of_gt e1.lt, Nat.ne_of_gt e3.lt⟩
end Go.Proofs.Yteklcolphbcjlaa
/- Walks of package wire: Put of what may not be, and of all but ticks. -/
namespace Go.Proofs.Yteklcolphbcjlaa
open Go.RowKit

set_option maxHeartbeats 8000000 in
set_option maxRecDepth 100000 in
theorem wput16_no (ok oid ec et ex em ek ee ot om ow oc ov : Int) (dv : Value) (ds : List Int) (w : World) (h : Nums w dv ds) (hm : omB ⟨ok, oid, ⟨ec, et, ex, em, ek, ee⟩, ot, om, ow, oc, ov, ds⟩ = false) :
    Calls Try.prog 9 #[.agg #[.int .i64 ok, .int .i64 oid, .int .i64 ec, .int .i64 et, .int .i64 ex, .int .i64 em, .int .i64 ek, .int .i64 ee, .int .i64 ot, .int .i64 om, .int .i64 ow, .int .i64 oc, .int .i64 ov, dv]] w (PutE ⟨ok, oid, ⟨ec, et, ex, em, ek, ee⟩, ot, om, ow, oc, ov, ds⟩ w) := by
  obtain ⟨a, zn, cap, rfl⟩ : ∃ a z c, dv = .slice a z c := by obtain ⟨a, c, e, _⟩ := h; exact ⟨a, _, c, e⟩
  have HN : Hid (∀ y, Below w.heap.size w y → Nums y (.slice a zn cap) ds) := fun y hy => h.later hy
  have HMB : Hid (omB ⟨ok, oid, ⟨ec, et, ex, em, ek, ee⟩, ot, om, ow, oc, ov, ds⟩ = false) := hm
  clear hm
  have HB : Hid (Bk (w.alloc (.cells #[.int .i64 ok, .int .i64 oid, .int .i64 ec, .int .i64 et, .int .i64 ex, .int .i64 em, .int .i64 ek, .int .i64 ee, .int .i64 ot, .int .i64 om, .int .i64 ow, .int .i64 oc, .int .i64 ov, .slice a zn cap] 26)) w.heap.size [.int .i64 ok, .int .i64 oid, .int .i64 ec, .int .i64 et, .int .i64 ex, .int .i64 em, .int .i64 ek, .int .i64 ee, .int .i64 ot, .int .i64 om, .int .i64 ow, .int .i64 oc, .int .i64 ov, .slice a zn cap] ∧ Below w.heap.size w (w.alloc (.cells #[.int .i64 ok, .int .i64 oid, .int .i64 ec, .int .i64 et, .int .i64 ex, .int .i64 em, .int .i64 ek, .int .i64 ee, .int .i64 ot, .int .i64 om, .int .i64 ow, .int .i64 oc, .int .i64 ov, .slice a zn cap] 26))) := ⟨Bk.new w _ _, below_b1 _ _⟩
  clear h
  go_enter Try.func9, Try.ntmps9
  go_upto_region 1 with fail
  generalize (w.alloc (.cells #[.int .i64 ok, .int .i64 oid, .int .i64 ec, .int .i64 et, .int .i64 ex, .int .i64 em, .int .i64 ek, .int .i64 ee, .int .i64 ot, .int .i64 om, .int .i64 ow, .int .i64 oc, .int .i64 ov, .slice a zn cap] 26)) = W at *
  have hlw := HB.out.1.lt
  go_wp2_with (refine load_bk rfl 26 _ rfl w.heap.size 0 [.int .i64 ok, .int .i64 oid, .int .i64 ec, .int .i64 et, .int .i64 ex, .int .i64 em, .int .i64 ek, .int .i64 ee, .int .i64 ot, .int .i64 om, .int .i64 ow, .int .i64 oc, .int .i64 ov, .slice a zn cap] [.int .i64 ok, .int .i64 oid, .int .i64 ec, .int .i64 et, .int .i64 ex, .int .i64 em, .int .i64 ek, .int .i64 ee, .int .i64 ot, .int .i64 om, .int .i64 ow, .int .i64 oc, .int .i64 ov, .slice a zn cap] rfl HB.out.1 rfl _ Try.underlying26 rfl (by kernel_rfl) ?_)
  refine (wmay16_any ok oid ec et ex em ek ee ot om ow oc ov (.slice a zn cap) ds _ (HN.out _ HB.out.2)).mono ?_
  rintro e w1 ⟨rfl, hb1⟩
  rw [HMB.out]
  have HC : Hid (Bk w1 w.heap.size [.int .i64 ok, .int .i64 oid, .int .i64 ec, .int .i64 et, .int .i64 ex, .int .i64 em, .int .i64 ek, .int .i64 ee, .int .i64 ot, .int .i64 om, .int .i64 ow, .int .i64 oc, .int .i64 ov, .slice a zn cap] ∧ Below w.heap.size w w1) := ⟨HB.out.1.later hb1, HB.out.2.trans (hb1.mono HB.out.2.size)⟩
  clear hb1 HB hlw
  go_wp2_with fail
  go_ret2
  exact ⟨_, by rw [HMB.out]; rfl, by rw [HMB.out]; exact OwY.nil _ _, HC.out.2⟩
set_option maxHeartbeats 8000000 in
set_option maxRecDepth 100000 in
theorem wput16_0 (ok oid ec et ex em ek ee ot om ow oc ov : Int) (dv : Value) (ds : List Int) (w : World) (h : Nums w dv ds) (hk : 0 ≤ ok ∧ ok ≤ 3) (hm : omB ⟨ok, oid, ⟨ec, et, ex, em, ek, ee⟩, ot, om, ow, oc, ov, ds⟩ = true) :
    Calls Try.prog 9 #[.agg #[.int .i64 ok, .int .i64 oid, .int .i64 ec, .int .i64 et, .int .i64 ex, .int .i64 em, .int .i64 ek, .int .i64 ee, .int .i64 ot, .int .i64 om, .int .i64 ow, .int .i64 oc, .int .i64 ov, dv]] w (PutE ⟨ok, oid, ⟨ec, et, ex, em, ek, ee⟩, ot, om, ow, oc, ov, ds⟩ w) := by
  obtain ⟨a, zn, cap, rfl⟩ : ∃ a z c, dv = .slice a z c := by obtain ⟨a, c, e, _⟩ := h; exact ⟨a, _, c, e⟩
  have HN : Hid (∀ y, Below w.heap.size w y → Nums y (.slice a zn cap) ds) := fun y hy => h.later hy
  have HMB : Hid (omB ⟨ok, oid, ⟨ec, et, ex, em, ek, ee⟩, ot, om, ow, oc, ov, ds⟩ = true) := hm
  have HK : Hid (0 ≤ ok ∧ ok ≤ 3) := hk
  clear hm hk
  have HB : Hid (Bk (w.alloc (.cells #[.int .i64 ok, .int .i64 oid, .int .i64 ec, .int .i64 et, .int .i64 ex, .int .i64 em, .int .i64 ek, .int .i64 ee, .int .i64 ot, .int .i64 om, .int .i64 ow, .int .i64 oc, .int .i64 ov, .slice a zn cap] 26)) w.heap.size [.int .i64 ok, .int .i64 oid, .int .i64 ec, .int .i64 et, .int .i64 ex, .int .i64 em, .int .i64 ek, .int .i64 ee, .int .i64 ot, .int .i64 om, .int .i64 ow, .int .i64 oc, .int .i64 ov, .slice a zn cap] ∧ Below w.heap.size w (w.alloc (.cells #[.int .i64 ok, .int .i64 oid, .int .i64 ec, .int .i64 et, .int .i64 ex, .int .i64 em, .int .i64 ek, .int .i64 ee, .int .i64 ot, .int .i64 om, .int .i64 ow, .int .i64 oc, .int .i64 ov, .slice a zn cap] 26))) := ⟨Bk.new w _ _, below_b1 _ _⟩
  clear h
  go_enter Try.func9, Try.ntmps9
  go_upto_region 1 with fail
  generalize (w.alloc (.cells #[.int .i64 ok, .int .i64 oid, .int .i64 ec, .int .i64 et, .int .i64 ex, .int .i64 em, .int .i64 ek, .int .i64 ee, .int .i64 ot, .int .i64 om, .int .i64 ow, .int .i64 oc, .int .i64 ov, .slice a zn cap] 26)) = W at *
  have hlw := HB.out.1.lt
  go_wp2_with (refine load_bk rfl 26 _ rfl w.heap.size 0 [.int .i64 ok, .int .i64 oid, .int .i64 ec, .int .i64 et, .int .i64 ex, .int .i64 em, .int .i64 ek, .int .i64 ee, .int .i64 ot, .int .i64 om, .int .i64 ow, .int .i64 oc, .int .i64 ov, .slice a zn cap] [.int .i64 ok, .int .i64 oid, .int .i64 ec, .int .i64 et, .int .i64 ex, .int .i64 em, .int .i64 ek, .int .i64 ee, .int .i64 ot, .int .i64 om, .int .i64 ow, .int .i64 oc, .int .i64 ov, .slice a zn cap] rfl HB.out.1 rfl _ Try.underlying26 rfl (by kernel_rfl) ?_)
  refine (wmay16_any ok oid ec et ex em ek ee ot om ow oc ov (.slice a zn cap) ds _ (HN.out _ HB.out.2)).mono ?_
  rintro e w1 ⟨rfl, hb1⟩
  rw [HMB.out]
  have HC : Hid (Bk w1 w.heap.size [.int .i64 ok, .int .i64 oid, .int .i64 ec, .int .i64 et, .int .i64 ex, .int .i64 em, .int .i64 ek, .int .i64 ee, .int .i64 ot, .int .i64 om, .int .i64 ow, .int .i64 oc, .int .i64 ov, .slice a zn cap] ∧ Below w.heap.size w w1) := ⟨HB.out.1.later hb1, HB.out.2.trans (hb1.mono HB.out.2.size)⟩
  clear hb1 HB hlw
  have hl1 := HC.out.1.lt
  have e0 := HC.out.1.cell (i := 0) rfl
  go_wp2_with fail
  refine (digits_any ok 1 (by omega) (by omega) _).mono ?_
  rintro e w2 ⟨v2, rfl, ho2, hb2⟩
  rw [dg_one ok (by have := HK.out; omega)] at ho2
  have HD : Hid (Bk w2 w.heap.size [.int .i64 ok, .int .i64 oid, .int .i64 ec, .int .i64 et, .int .i64 ex, .int .i64 em, .int .i64 ek, .int .i64 ee, .int .i64 ot, .int .i64 om, .int .i64 ow, .int .i64 oc, .int .i64 ov, .slice a zn cap] ∧ Below w.heap.size w w2 ∧ OwY w2 w1.heap.size v2 [ok] ∧ w1.heap.size ≤ w2.heap.size ∧ w.heap.size < w1.heap.size) := ⟨HC.out.1.later hb2, HC.out.2.trans (hb2.mono HC.out.2.size), ho2, hb2.size, hl1⟩
  have f0 := HD.out.1.cell (i := 0) rfl
  clear hb2 ho2 e0 HC hl1
  go_wp2_with fail
  refine (had_any ok _).mono ?_
  rintro e w4 ⟨v4, q, rfl, ho4, hw4, hb4⟩
  obtain ⟨Lx, hL⟩ : ∃ Lx, ixs ok = Lx := ⟨_, rfl⟩
  have HL : Hid ((∀ i ∈ Lx, i < 12) ∧ Lx.length ≤ 6) := ⟨by rw [← hL]; exact ixs_3 HK.out, by rw [← hL]; exact ixs_len ok⟩
  have HM : Hid (obL ⟨ok, oid, ⟨ec, et, ex, em, ek, ee⟩, ot, om, ow, oc, ov, ds⟩ = [ok] ++ bpL ⟨ok, oid, ⟨ec, et, ex, em, ek, ee⟩, ot, om, ow, oc, ov, ds⟩ Lx) := by show _ = _; rw [← hL]; exact (bp_ob HK.out HMB.out).symm
  rw [hL] at ho4
  have hne : Lx ≠ [] := by
    rw [← hL]
    rcases (show ok = 0 ∨ ok = 1 ∨ ok = 2 ∨ ok = 3 by have := HK.out; omega) with rfl | rfl | rfl | rfl <;> exact List.cons_ne_nil _ _
  clear hL
  obtain ⟨p0, ps0, hps⟩ : ∃ p0 ps0, Lx.map (po q) = p0 :: ps0 := by
    cases Lx with
    | nil => exact absurd rfl hne
    | cons a l => exact ⟨_, _, rfl⟩
  have hlen : (Lx.map (po q)).length = Lx.length := List.length_map _
  have HP : Hid (Lx.map (po q) = p0 :: ps0) := hps
  rcases ho4.rd with ⟨hz, _⟩ | ⟨g, cap4, rfl, hg, hc4, hbk⟩
  · exact absurd (List.map_eq_nil_iff.1 hz) hne
  rw [hlen] at hc4 ⊢
  have hAp : Apt v2 q w.heap.size g := fun k hk => by
    have h1 := (HD.out.2.2.1.lt k hk).1
    have h2 := (HD.out.2.2.1.lt k hk).2
    have h3 := HD.out.2.2.2.2
    have h4 := HD.out.2.2.2.1
    refine ⟨by omega, by omega, fun i hi => ?_⟩
    have := (hw4 i hi).2
    exact ⟨by omega, by omega⟩
  have HX : Hid (PuR ⟨ok, oid, ⟨ec, et, ex, em, ek, ee⟩, ot, om, ow, oc, ov, ds⟩ (.slice a zn cap) (p0 :: ps0) q w.heap.size g w w4 v2 ([ok] ++ bpL ⟨ok, oid, ⟨ec, et, ex, em, ek, ee⟩, ot, om, ow, oc, ov, ds⟩ (Lx.take 0))) := ⟨(HD.out.2.2.1.later hb4).lower HD.out.2.2.2.2, HD.out.1.later hb4, by rw [← hps]; exact hbk, fun i hi => (hw4 i hi).1, HD.out.2.1.trans (hb4.mono HD.out.2.1.size), hAp⟩
  clear ho4 hw4 hb4 hbk hg hne hc4 hps hlen hAp
  go_wp2_with fail
  go_loopw [4, 17] (fun lv iv wr => ∃ t : Nat, t ≤ Lx.length ∧ iv = .int .i64 t ∧ Hid (PuR ⟨ok, oid, ⟨ec, et, ex, em, ek, ee⟩, ot, om, ow, oc, ov, ds⟩ (.slice a zn cap) (p0 :: ps0) q w.heap.size g w wr lv ([ok] ++ bpL ⟨ok, oid, ⟨ec, et, ex, em, ek, ee⟩, ot, om, ow, oc, ov, ds⟩ (Lx.take t)) ∧ (bpL ⟨ok, oid, ⟨ec, et, ex, em, ek, ee⟩, ot, om, ow, oc, ov, ds⟩ (Lx.take t)).length ≤ 2 * t)) (fun _ iv _ => (Lx.length - intOf iv).toNat)
  case atStart => exact ⟨0, by omega, by go_num, HX, by simp [bpL]⟩
  case round =>
    obtain ⟨t, ht, rfl, HR⟩ := hrel
    clear HX f0 HD
    by_cases hlt : t < Lx.length
    · have hlt' : (t : Int) < Lx.length := by omega
      have ht6 : (t : Int) < 6 := by have := HL.out.2; omega
      obtain ⟨i, hi⟩ : ∃ i, Lx[t]? = some i := ⟨_, List.getElem?_eq_getElem hlt⟩
      have hi12 : i < 12 := HL.out.1 i (List.mem_of_getElem? hi)
      have HI : Hid (Lx[t]? = some i ∧ i < 12) := ⟨hi, hi12⟩
      have HD : Hid (((fl (p0 :: ps0)).drop (t * 4)).take ([.func (.func 47) #[] #[.pointer (some ⟨(q i) + 1, 0, none⟩), .pointer (some ⟨(q i), 0, none⟩)], .func (.func 48) #[] #[.pointer (some ⟨(q i) + 1, 0, none⟩)], .func (.func 49) #[] #[.pointer (some ⟨(q i) + 1, 0, none⟩), .pointer (some ⟨(q i), 0, none⟩)], .func (.func 50) #[] #[.pointer (some ⟨(q i), 0, none⟩), .pointer (some ⟨(q i) + 1, 0, none⟩)]] : List Value).length = [.func (.func 47) #[] #[.pointer (some ⟨(q i) + 1, 0, none⟩), .pointer (some ⟨(q i), 0, none⟩)], .func (.func 48) #[] #[.pointer (some ⟨(q i) + 1, 0, none⟩)], .func (.func 49) #[] #[.pointer (some ⟨(q i) + 1, 0, none⟩), .pointer (some ⟨(q i), 0, none⟩)], .func (.func 50) #[] #[.pointer (some ⟨(q i), 0, none⟩), .pointer (some ⟨(q i) + 1, 0, none⟩)]]) := by
        have := fl_at (Lx.map (po q)) t (some (q i)) (by rw [List.getElem?_map, hi]; show some (po q i) = _; rw [po_some q hi12])
        rw [HP.out] at this
        exact this
      have HA : Hid (PuR ⟨ok, oid, ⟨ec, et, ex, em, ek, ee⟩, ot, om, ow, oc, ov, ds⟩ (.slice a zn cap) (p0 :: ps0) q w.heap.size g w (wr.alloc (.cells #[.func (.func 47) #[] #[.pointer (some ⟨(q i) + 1, 0, none⟩), .pointer (some ⟨(q i), 0, none⟩)], .func (.func 48) #[] #[.pointer (some ⟨(q i) + 1, 0, none⟩)], .func (.func 49) #[] #[.pointer (some ⟨(q i) + 1, 0, none⟩), .pointer (some ⟨(q i), 0, none⟩)], .func (.func 50) #[] #[.pointer (some ⟨(q i), 0, none⟩), .pointer (some ⟨(q i) + 1, 0, none⟩)]] 52)) _ ([ok] ++ bpL ⟨ok, oid, ⟨ec, et, ex, em, ek, ee⟩, ot, om, ow, oc, ov, ds⟩ (Lx.take t)) ∧ Bk (wr.alloc (.cells #[.func (.func 47) #[] #[.pointer (some ⟨(q i) + 1, 0, none⟩), .pointer (some ⟨(q i), 0, none⟩)], .func (.func 48) #[] #[.pointer (some ⟨(q i) + 1, 0, none⟩)], .func (.func 49) #[] #[.pointer (some ⟨(q i) + 1, 0, none⟩), .pointer (some ⟨(q i), 0, none⟩)], .func (.func 50) #[] #[.pointer (some ⟨(q i), 0, none⟩), .pointer (some ⟨(q i) + 1, 0, none⟩)]] 52)) wr.heap.size [.func (.func 47) #[] #[.pointer (some ⟨(q i) + 1, 0, none⟩), .pointer (some ⟨(q i), 0, none⟩)], .func (.func 48) #[] #[.pointer (some ⟨(q i) + 1, 0, none⟩)], .func (.func 49) #[] #[.pointer (some ⟨(q i) + 1, 0, none⟩), .pointer (some ⟨(q i), 0, none⟩)], .func (.func 50) #[] #[.pointer (some ⟨(q i), 0, none⟩), .pointer (some ⟨(q i) + 1, 0, none⟩)]]) := ⟨HR.out.1.later (below_b1 _ _), Bk.new _ _ _⟩
      obtain ⟨hq0, K, hK, hf0⟩ := HA.out.1.2.2.2.1 i hi12
      have HK2 : Hid (AtK K (ciN i) ∧ (wr.alloc (.cells #[.func (.func 47) #[] #[.pointer (some ⟨(q i) + 1, 0, none⟩), .pointer (some ⟨(q i), 0, none⟩)], .func (.func 48) #[] #[.pointer (some ⟨(q i) + 1, 0, none⟩)], .func (.func 49) #[] #[.pointer (some ⟨(q i) + 1, 0, none⟩), .pointer (some ⟨(q i), 0, none⟩)], .func (.func 50) #[] #[.pointer (some ⟨(q i), 0, none⟩), .pointer (some ⟨(q i) + 1, 0, none⟩)]] 52)).cell? ⟨q i, 0, none⟩ = some (.int .i64 (siN i)) ∧ (wr.alloc (.cells #[.func (.func 47) #[] #[.pointer (some ⟨(q i) + 1, 0, none⟩), .pointer (some ⟨(q i), 0, none⟩)], .func (.func 48) #[] #[.pointer (some ⟨(q i) + 1, 0, none⟩)], .func (.func 49) #[] #[.pointer (some ⟨(q i) + 1, 0, none⟩), .pointer (some ⟨(q i), 0, none⟩)], .func (.func 50) #[] #[.pointer (some ⟨(q i), 0, none⟩), .pointer (some ⟨(q i) + 1, 0, none⟩)]] 52)).cell? ⟨q i + 1, 0, none⟩ = some (.func (.func K) #[] #[])) := ⟨hK, hq0.cell rfl, hf0.cell rfl⟩
      have HT : Hid (([ok] ++ bpL ⟨ok, oid, ⟨ec, et, ex, em, ek, ee⟩, ot, om, ow, oc, ov, ds⟩ (Lx.take t)) ++ dgP (pvN ⟨ok, oid, ⟨ec, et, ex, em, ek, ee⟩, ot, om, ow, oc, ov, ds⟩ i) (siN i) (siN i) = [ok] ++ bpL ⟨ok, oid, ⟨ec, et, ex, em, ek, ee⟩, ot, om, ow, oc, ov, ds⟩ (Lx.take (t + 1)) ∧ ([ok] ++ bpL ⟨ok, oid, ⟨ec, et, ex, em, ek, ee⟩, ot, om, ow, oc, ov, ds⟩ (Lx.take t)).length + (dgP (pvN ⟨ok, oid, ⟨ec, et, ex, em, ek, ee⟩, ot, om, ow, oc, ov, ds⟩ i) (siN i) (siN i)).length ≤ 100000 ∧ (bpL ⟨ok, oid, ⟨ec, et, ex, em, ek, ee⟩, ot, om, ow, oc, ov, ds⟩ (Lx.take (t + 1))).length ≤ 2 * (t + 1) ∧ dgP (pvN ⟨ok, oid, ⟨ec, et, ex, em, ek, ee⟩, ot, om, ow, oc, ov, ds⟩ i) (siN i) (siN i) ≠ []) := by
        have h1 := HR.out.2
        have h2 := si_12 hi12
        refine ⟨by rw [bpL_next _ hi, List.append_assoc], by rw [List.length_append, dgP_len]; simp; omega, by rw [bpL_next _ hi, List.length_append, dgP_len]; omega, fun e => ?_⟩
        have := dgP_len (pvN ⟨ok, oid, ⟨ec, et, ex, em, ek, ee⟩, ot, om, ow, oc, ov, ds⟩ i) (siN i) (siN i)
        rw [e] at this
        simp at this
        omega
      clear hq0 hf0 hK hi hi12
      go_wp2_with (first
        | (refine load_bk rfl 52 _ rfl g (t * 4) _ [.func (.func 47) #[] #[.pointer (some ⟨(q i) + 1, 0, none⟩), .pointer (some ⟨(q i), 0, none⟩)], .func (.func 48) #[] #[.pointer (some ⟨(q i) + 1, 0, none⟩)], .func (.func 49) #[] #[.pointer (some ⟨(q i) + 1, 0, none⟩), .pointer (some ⟨(q i), 0, none⟩)], .func (.func 50) #[] #[.pointer (some ⟨(q i), 0, none⟩), .pointer (some ⟨(q i) + 1, 0, none⟩)]] ?_ HR.out.1.2.2.1 HD.out _ Try.underlying52 rfl (by kernel_rfl) ?_; · rfl)
        | (refine load_bk rfl 26 _ rfl w.heap.size 0 [.int .i64 ok, .int .i64 oid, .int .i64 ec, .int .i64 et, .int .i64 ex, .int .i64 em, .int .i64 ek, .int .i64 ee, .int .i64 ot, .int .i64 om, .int .i64 ow, .int .i64 oc, .int .i64 ov, .slice a zn cap] [.int .i64 ok, .int .i64 oid, .int .i64 ec, .int .i64 et, .int .i64 ex, .int .i64 em, .int .i64 ek, .int .i64 ee, .int .i64 ot, .int .i64 om, .int .i64 ow, .int .i64 oc, .int .i64 ov, .slice a zn cap] rfl HA.out.1.2.1 rfl _ Try.underlying26 rfl (by kernel_rfl) ?_))
      refine (wput_any K (ciN i) HK2.out.1 (siN i) (si_12 HI.out.2) ok oid ec et ex em ek ee ot om ow oc ov (.slice a zn cap) (pvN ⟨ok, oid, ⟨ec, et, ex, em, ek, ee⟩, ot, om, ow, oc, ov, ds⟩ i) (q i) _ (oL_at ⟨ok, oid, ⟨ec, et, ex, em, ek, ee⟩, ot, om, ow, oc, ov, ds⟩ (.slice a zn cap) HI.out.2) HK2.out.2.1 HK2.out.2.2).mono ?_
      rintro e w5 ⟨v5, rfl, ho5, hb5⟩
      have HE : Hid (PuR ⟨ok, oid, ⟨ec, et, ex, em, ek, ee⟩, ot, om, ow, oc, ov, ds⟩ (.slice a zn cap) (p0 :: ps0) q w.heap.size g w w5 _ ([ok] ++ bpL ⟨ok, oid, ⟨ec, et, ex, em, ek, ee⟩, ot, om, ow, oc, ov, ds⟩ (Lx.take t)) ∧ Bys w5 v5 (dgP (pvN ⟨ok, oid, ⟨ec, et, ex, em, ek, ee⟩, ot, om, ow, oc, ov, ds⟩ i) (siN i) (siN i))) := ⟨HA.out.1.later hb5, ho5.bys (dgP_bd _ _)⟩
      clear ho5 hb5 HA
      go_wp2_with (at_builtin; refine append_at rfl _ _ rfl (w.heap.size + 1) _ _ _ _ rfl HE.out.1.1 rfl HE.out.2 HT.out.2.2.2 HT.out.2.1 HE.out.1.2.1.lt ?_; intro v6 w6 ho6 hg6 hv6)
      go_roundw
      case rel => exact ⟨t + 1, by omega, by go_num, by rw [← HT.out.1]; exact HE.out.1.step ho6 hg6 hv6, HT.out.2.2.1⟩
      case measure => simp [intOf]; omega
    · obtain rfl : t = Lx.length := by omega
      have hlt' : ¬ (Lx.length : Int) < Lx.length := by omega
      have hr := HR.out.1
      rw [List.take_length] at hr
      have HF : Hid (OwY wr w.heap.size _ (obL ⟨ok, oid, ⟨ec, et, ex, em, ek, ee⟩, ot, om, ow, oc, ov, ds⟩) ∧ Below w.heap.size w wr) := ⟨by rw [HM.out]; exact hr.1.lower (Nat.le_succ _), hr.2.2.2.2.1⟩
      clear hr HR
      go_wp2_with fail
      go_ret2
      exact ⟨_, by rw [HMB.out]; rfl, by rw [HMB.out]; exact HF.out.1, HF.out.2⟩
end Go.Proofs.Yteklcolphbcjlaa
/- Walks of package wire: Put of a tick; of all. -/
namespace Go.Proofs.Yteklcolphbcjlaa
open Go.RowKit

theorem lds_bd {ds : List Int} (h : ds.length ≤ 4) (hd : ∀ x ∈ ds, 1 ≤ x ∧ x ≤ 20) : ∀ i, i < ((ds.length : Int) :: ds).length → 0 ≤ ((ds.length : Int) :: ds).getD i 0 ∧ ((ds.length : Int) :: ds).getD i 0 ≤ 255
  | 0, _ => by
    show 0 ≤ (ds.length : Int) ∧ (ds.length : Int) ≤ 255
    omega
  | i + 1, hi => by
    have hi' : i < ds.length := by simpa using hi
    show 0 ≤ ds.getD i 0 ∧ ds.getD i 0 ≤ 255
    have := hd (ds.getD i 0) (by rw [List.getD_eq_getElem?_getD, List.getElem?_eq_getElem hi']; exact List.getElem_mem hi')
    omega
set_option maxHeartbeats 8000000 in
set_option maxRecDepth 100000 in
theorem wput16_4 (oid ec et ex em ek ee ot om ow oc ov : Int) (dv : Value) (ds : List Int) (w : World) (h : Nums w dv ds) (hm : omB ⟨4, oid, ⟨ec, et, ex, em, ek, ee⟩, ot, om, ow, oc, ov, ds⟩ = true) :
    Calls Try.prog 9 #[.agg #[.int .i64 4, .int .i64 oid, .int .i64 ec, .int .i64 et, .int .i64 ex, .int .i64 em, .int .i64 ek, .int .i64 ee, .int .i64 ot, .int .i64 om, .int .i64 ow, .int .i64 oc, .int .i64 ov, dv]] w (PutE ⟨4, oid, ⟨ec, et, ex, em, ek, ee⟩, ot, om, ow, oc, ov, ds⟩ w) := by
  obtain ⟨a, zn, cap, rfl⟩ : ∃ a z c, dv = .slice a z c := by obtain ⟨a, c, e, _⟩ := h; exact ⟨a, _, c, e⟩
  have HN : Hid (∀ y, Below w.heap.size w y → Nums y (.slice a zn cap) ds) := fun y hy => h.later hy
  have HMB : Hid (omB ⟨4, oid, ⟨ec, et, ex, em, ek, ee⟩, ot, om, ow, oc, ov, ds⟩ = true) := hm
  have HL : Hid (ds.length ≤ 4 ∧ ∀ x ∈ ds, 1 ≤ x ∧ x ≤ 20) := by
    rw [om_4k] at hm
    have h1 := Bool.and_eq_true_iff.1 (Bool.and_eq_true_iff.1 hm).1
    exact ⟨of_decide_eq_true h1.1, inD_iff.1 h1.2⟩
  clear hm
  have HB : Hid (Bk (w.alloc (.cells #[.int .i64 4, .int .i64 oid, .int .i64 ec, .int .i64 et, .int .i64 ex, .int .i64 em, .int .i64 ek, .int .i64 ee, .int .i64 ot, .int .i64 om, .int .i64 ow, .int .i64 oc, .int .i64 ov, .slice a zn cap] 26)) w.heap.size [.int .i64 4, .int .i64 oid, .int .i64 ec, .int .i64 et, .int .i64 ex, .int .i64 em, .int .i64 ek, .int .i64 ee, .int .i64 ot, .int .i64 om, .int .i64 ow, .int .i64 oc, .int .i64 ov, .slice a zn cap] ∧ Below w.heap.size w (w.alloc (.cells #[.int .i64 4, .int .i64 oid, .int .i64 ec, .int .i64 et, .int .i64 ex, .int .i64 em, .int .i64 ek, .int .i64 ee, .int .i64 ot, .int .i64 om, .int .i64 ow, .int .i64 oc, .int .i64 ov, .slice a zn cap] 26))) := ⟨Bk.new w _ _, below_b1 _ _⟩
  clear h
  go_enter Try.func9, Try.ntmps9
  go_upto_region 1 with fail
  generalize (w.alloc (.cells #[.int .i64 4, .int .i64 oid, .int .i64 ec, .int .i64 et, .int .i64 ex, .int .i64 em, .int .i64 ek, .int .i64 ee, .int .i64 ot, .int .i64 om, .int .i64 ow, .int .i64 oc, .int .i64 ov, .slice a zn cap] 26)) = W at *
  have hlw := HB.out.1.lt
  go_wp2_with (refine load_bk rfl 26 _ rfl w.heap.size 0 [.int .i64 4, .int .i64 oid, .int .i64 ec, .int .i64 et, .int .i64 ex, .int .i64 em, .int .i64 ek, .int .i64 ee, .int .i64 ot, .int .i64 om, .int .i64 ow, .int .i64 oc, .int .i64 ov, .slice a zn cap] [.int .i64 4, .int .i64 oid, .int .i64 ec, .int .i64 et, .int .i64 ex, .int .i64 em, .int .i64 ek, .int .i64 ee, .int .i64 ot, .int .i64 om, .int .i64 ow, .int .i64 oc, .int .i64 ov, .slice a zn cap] rfl HB.out.1 rfl _ Try.underlying26 rfl (by kernel_rfl) ?_)
  refine (wmay16_any 4 oid ec et ex em ek ee ot om ow oc ov (.slice a zn cap) ds _ (HN.out _ HB.out.2)).mono ?_
  rintro e w1 ⟨rfl, hb1⟩
  rw [HMB.out]
  have HC : Hid (Bk w1 w.heap.size [.int .i64 4, .int .i64 oid, .int .i64 ec, .int .i64 et, .int .i64 ex, .int .i64 em, .int .i64 ek, .int .i64 ee, .int .i64 ot, .int .i64 om, .int .i64 ow, .int .i64 oc, .int .i64 ov, .slice a zn cap] ∧ Below w.heap.size w w1) := ⟨HB.out.1.later hb1, HB.out.2.trans (hb1.mono HB.out.2.size)⟩
  clear hb1 HB hlw
  have hl1 := HC.out.1.lt
  have e0 := HC.out.1.cell (i := 0) rfl
  go_wp2_with fail
  refine (digits_any 4 1 (by omega) (by omega) _).mono ?_
  rintro e w2 ⟨v2, rfl, ho2, hb2⟩
  rw [dg_one 4 (by omega)] at ho2
  have HD : Hid (Bk w2 w.heap.size [.int .i64 4, .int .i64 oid, .int .i64 ec, .int .i64 et, .int .i64 ex, .int .i64 em, .int .i64 ek, .int .i64 ee, .int .i64 ot, .int .i64 om, .int .i64 ow, .int .i64 oc, .int .i64 ov, .slice a zn cap] ∧ Below w.heap.size w w2 ∧ OwY w2 w1.heap.size v2 [4] ∧ w1.heap.size ≤ w2.heap.size ∧ w.heap.size < w1.heap.size) := ⟨HC.out.1.later hb2, HC.out.2.trans (hb2.mono HC.out.2.size), ho2, hb2.size, hl1⟩
  have f0 := HD.out.1.cell (i := 0) rfl
  clear hb2 ho2 e0 HC hl1
  go_wp2_with fail
  refine (had_any 4 _).mono ?_
  rintro e w4 ⟨v4, q, rfl, ho4, hw4, hb4⟩
  have ho5 : OwP w4 w2.heap.size v4 [none] := ho4
  rcases ho5.rd with ⟨hz, _⟩ | ⟨g, cap4, rfl, hg, hc4, hbk⟩
  · cases hz
  have hAp : Apt v2 q w.heap.size g := fun k hk => by
    have h1 := (HD.out.2.2.1.lt k hk).1
    have h2 := (HD.out.2.2.1.lt k hk).2
    have h3 := HD.out.2.2.2.2
    have h4 := HD.out.2.2.2.1
    refine ⟨by omega, by omega, fun i hi => ?_⟩
    have := (hw4 i hi).2
    exact ⟨by omega, by omega⟩
  have HX : Hid (PuR ⟨4, oid, ⟨ec, et, ex, em, ek, ee⟩, ot, om, ow, oc, ov, ds⟩ (.slice a zn cap) [none] q w.heap.size g w w4 v2 [4]) := ⟨(HD.out.2.2.1.later hb4).lower HD.out.2.2.2.2, HD.out.1.later hb4, hbk, fun i hi => (hw4 i hi).1, HD.out.2.1.trans (hb4.mono HD.out.2.1.size), hAp⟩
  clear ho4 ho5 hw4 hb4 hbk hg hc4 hAp
  go_wp2_with fail
  go_loopw [4, 17] (fun lv iv wr => (iv = .int .i64 0 ∧ Hid (PuR ⟨4, oid, ⟨ec, et, ex, em, ek, ee⟩, ot, om, ow, oc, ov, ds⟩ (.slice a zn cap) [none] q w.heap.size g w wr lv [4])) ∨ (iv = .int .i64 1 ∧ Hid (PuR ⟨4, oid, ⟨ec, et, ex, em, ek, ee⟩, ot, om, ow, oc, ov, ds⟩ (.slice a zn cap) [none] q w.heap.size g w wr lv ([4] ++ (ds.length : Int) :: ds)))) (fun _ iv _ => (1 - intOf iv).toNat)
  case atStart => exact .inl ⟨by go_num, HX⟩
  case round =>
    clear HX f0 HD
    rcases hrel with ⟨rfl, HR⟩ | ⟨rfl, HR⟩
    · have HA : Hid (PuR ⟨4, oid, ⟨ec, et, ex, em, ek, ee⟩, ot, om, ow, oc, ov, ds⟩ (.slice a zn cap) [none] q w.heap.size g w (wr.alloc (.cells #[.func (.func 51) #[] #[], .func (.func 54) #[] #[], .func (.func 55) #[] #[], .func (.func 56) #[] #[]] 52)) _ [4] ∧ Bk (wr.alloc (.cells #[.func (.func 51) #[] #[], .func (.func 54) #[] #[], .func (.func 55) #[] #[], .func (.func 56) #[] #[]] 52)) wr.heap.size [.func (.func 51) #[] #[], .func (.func 54) #[] #[], .func (.func 55) #[] #[], .func (.func 56) #[] #[]]) := ⟨HR.out.later (below_b1 _ _), Bk.new _ _ _⟩
      go_wp2_with (first
        | (refine load_bk rfl 52 _ rfl g 0 [.func (.func 51) #[] #[], .func (.func 54) #[] #[], .func (.func 55) #[] #[], .func (.func 56) #[] #[]] [.func (.func 51) #[] #[], .func (.func 54) #[] #[], .func (.func 55) #[] #[], .func (.func 56) #[] #[]] rfl HR.out.2.2.1 rfl _ Try.underlying52 rfl (by kernel_rfl) ?_)
        | (refine load_bk rfl 26 _ rfl w.heap.size 0 [.int .i64 4, .int .i64 oid, .int .i64 ec, .int .i64 et, .int .i64 ex, .int .i64 em, .int .i64 ek, .int .i64 ee, .int .i64 ot, .int .i64 om, .int .i64 ow, .int .i64 oc, .int .i64 ov, .slice a zn cap] [.int .i64 4, .int .i64 oid, .int .i64 ec, .int .i64 et, .int .i64 ex, .int .i64 em, .int .i64 ek, .int .i64 ee, .int .i64 ot, .int .i64 om, .int .i64 ow, .int .i64 oc, .int .i64 ov, .slice a zn cap] rfl HA.out.1.2.1 rfl _ Try.underlying26 rfl (by kernel_rfl) ?_))
      refine (lput_any 4 oid ec et ex em ek ee ot om ow oc ov (.slice a zn cap) ds _ (HN.out _ HA.out.1.2.2.2.2.1) HL.out.1 HL.out.2).mono ?_
      rintro e w5 ⟨v5, rfl, ho5, hb5⟩
      have HE : Hid (PuR ⟨4, oid, ⟨ec, et, ex, em, ek, ee⟩, ot, om, ow, oc, ov, ds⟩ (.slice a zn cap) [none] q w.heap.size g w w5 _ [4] ∧ Bys w5 v5 ((ds.length : Int) :: ds)) := ⟨HA.out.1.later hb5, ho5.bys (lds_bd HL.out.1 HL.out.2)⟩
      clear ho5 hb5 HA
      go_wp2_with (at_builtin; refine append_at rfl _ _ rfl (w.heap.size + 1) _ _ _ _ rfl HE.out.1.1 rfl HE.out.2 (List.cons_ne_nil _ _) (by have := HL.out.1; simp; omega) HE.out.1.2.1.lt ?_; intro v6 w6 ho6 hg6 hv6)
      go_roundw
      case rel => exact .inr ⟨by go_num, HE.out.1.step ho6 hg6 hv6⟩
      case measure => simp [intOf]
    · have HF : Hid (OwY wr w.heap.size _ (obL ⟨4, oid, ⟨ec, et, ex, em, ek, ee⟩, ot, om, ow, oc, ov, ds⟩) ∧ Below w.heap.size w wr) := ⟨HR.out.1.lower (Nat.le_succ _), HR.out.2.2.2.2.1⟩
      clear HR
      go_wp2_with fail
      go_ret2
      exact ⟨_, by rw [HMB.out]; rfl, by rw [HMB.out]; exact HF.out.1, HF.out.2⟩
theorem wput16_any (ok oid ec et ex em ek ee ot om ow oc ov : Int) (dv : Value) (ds : List Int) (w : World) (h : Nums w dv ds) : Calls Try.prog 9 #[.agg #[.int .i64 ok, .int .i64 oid, .int .i64 ec, .int .i64 et, .int .i64 ex, .int .i64 em, .int .i64 ek, .int .i64 ee, .int .i64 ot, .int .i64 om, .int .i64 ow, .int .i64 oc, .int .i64 ov, dv]] w (PutE ⟨ok, oid, ⟨ec, et, ex, em, ek, ee⟩, ot, om, ow, oc, ov, ds⟩ w) := by
  cases hm : omB ⟨ok, oid, ⟨ec, et, ex, em, ek, ee⟩, ot, om, ow, oc, ov, ds⟩ with
  | false => exact wput16_no ok oid ec et ex em ek ee ot om ow oc ov dv ds w h hm
  | true =>
    by_cases k3 : 0 ≤ ok ∧ ok ≤ 3
    · exact wput16_0 ok oid ec et ex em ek ee ot om ow oc ov dv ds w h k3 hm
    by_cases k4 : ok = 4
    · subst k4
      exact wput16_4 oid ec et ex em ek ee ot om ow oc ov dv ds w h hm
    · rw [om_far (by omega)] at hm; cases hm
end Go.Proofs.Yteklcolphbcjlaa
/- What is got, part by part: plain. -/
namespace Go.Proofs.Yteklcolphbcjlaa
open Go.RowKit

def gst (a : Ow × List Int) (i : Nat) : Ow × List Int := (puN a.1 i (nuP a.2 (siN i)), a.2.drop (siN i))
/-- What is got of the first parts, and the rest. -/
def gP (o : Ow) (ys : List Int) (L : List Nat) : Ow × List Int := L.foldl gst (o, ys)
def sS (L : List Nat) : Nat := (L.map siN).sum
theorem gP_next (o : Ow) (ys : List Int) {L : List Nat} {t i : Nat} (h : L[t]? = some i) : gP o ys (L.take (t + 1)) = gst (gP o ys (L.take t)) i := by
  unfold gP; rw [List.take_add_one, h, List.foldl_append]; rfl
theorem gP_len (L : List Nat) : ∀ (a : Ow × List Int), (L.foldl gst a).2.length = a.2.length - sS L := by
  induction L with
  | nil => intro a; simp [sS]
  | cons i L ih =>
    intro a
    show (L.foldl gst (gst a i)).2.length = _
    rw [ih]
    show (a.2.drop (siN i)).length - sS L = a.2.length - sS (i :: L)
    rw [List.length_drop]
    simp only [sS, List.map_cons, List.sum_cons]
    omega
theorem sS_take {L : List Nat} {t i : Nat} (h : L[t]? = some i) : sS (L.take t) + siN i ≤ sS L := by
  have e : L = L.take t ++ i :: L.drop (t + 1) := by
    obtain ⟨hl, he⟩ := List.getElem?_eq_some_iff.1 h
    rw [← he, List.getElem_cons_drop, List.take_append_drop]
  have h2 : sS L = sS (L.take t) + (siN i + sS (L.drop (t + 1))) := by
    conv => lhs; rw [e]
    simp [sS]
  omega
def zK (k : Int) : Ow := ⟨k, 0, ⟨0, 0, 0, 0, 0, 0⟩, 0, 0, 0, 0, 0, []⟩
theorem get_len {p : Ow} {xs : List Int} (hp : omB p = true) (he : obL p = xs) (hk : 0 ≤ p.k ∧ p.k ≤ 3) : xs.length = 1 + sS (ixs p.k) := by
  rw [← he, ob_len hp]
  rcases (show p.k = 0 ∨ p.k = 1 ∨ p.k = 2 ∨ p.k = 3 by omega) with h | h | h | h <;> (unfold olN; rw [h]; rfl)
theorem get_at {k : Int} {xs : List Int} (hk : 0 ≤ k ∧ k ≤ 3) (hl : xs.length = 1 + sS (ixs k)) (h0 : xs.getD 0 0 = k) : gP (zK k) (xs.drop 1) (ixs k) = (odR xs, []) := by
  rcases (show k = 0 ∨ k = 1 ∨ k = 2 ∨ k = 3 by omega) with rfl | rfl | rfl | rfl
  · have hl' : xs.length = 7 := hl
    match xs, hl', h0 with
    | [x0, x1, x2, x3, x4, x5, x6], _, h0 =>
      have e : x0 = 0 := h0
      subst e
      show ((⟨0, 0, ⟨0 * 256 + x1, 0 * 256 + x2, 0 * 256 + x3, 0 * 256 + x4, 0 * 256 + x5, 0 * 256 + x6⟩, 0, 0, 0, 0, 0, []⟩ : Ow), ([] : List Int)) = _
      simp [odR]
  · have hl' : xs.length = 5 := hl
    match xs, hl', h0 with
    | [x0, x1, x2, x3, x4], _, h0 =>
      have e : x0 = 1 := h0
      subst e
      show ((⟨1, (0 * 256 + x1) * 256 + x2, ⟨0, 0, 0, 0, 0, 0⟩, 0 * 256 + x3, 0 * 256 + x4, 0, 0, 0, []⟩ : Ow), ([] : List Int)) = _
      simp [odR]
  · have hl' : xs.length = 3 := hl
    match xs, hl', h0 with
    | [x0, x1, x2], _, h0 =>
      have e : x0 = 2 := h0
      subst e
      show ((⟨2, (0 * 256 + x1) * 256 + x2, ⟨0, 0, 0, 0, 0, 0⟩, 0, 0, 0, 0, 0, []⟩ : Ow), ([] : List Int)) = _
      simp [odR]
  · have hl' : xs.length = 5 := hl
    match xs, hl', h0 with
    | [x0, x1, x2, x3, x4], _, h0 =>
      have e : x0 = 3 := h0
      subst e
      show ((⟨3, 0, ⟨0, 0, 0, 0, 0, 0⟩, 0, 0, 0 * 256 + x1, 0 * 256 + x2, (0 * 256 + x3) * 256 + x4, []⟩ : Ow), ([] : List Int)) = _
      simp [odR]
theorem get_back {k : Int} {xs : List Int} (hk : 0 ≤ k ∧ k ≤ 3) (hl : xs.length = 1 + sS (ixs k)) (h0 : xs.getD 0 0 = k) (hb : ∀ i, i < xs.length → 0 ≤ xs.getD i 0 ∧ xs.getD i 0 ≤ 255) : obL (odR xs) = xs := by
  rcases (show k = 0 ∨ k = 1 ∨ k = 2 ∨ k = 3 by omega) with rfl | rfl | rfl | rfl
  · have hl' : xs.length = 7 := hl
    match xs, hl', h0 with
    | [x0, x1, x2, x3, x4, x5, x6], _, h0 =>
      have e : x0 = 0 := h0
      subst e
      simp [odR, obL]
  · have hl' : xs.length = 5 := hl
    match xs, hl', h0 with
    | [x0, x1, x2, x3, x4], _, h0 =>
      have e : x0 = 1 := h0
      subst e
      have b1 : 0 ≤ x1 ∧ x1 ≤ 255 := hb 1 (by simp)
      have b2 : 0 ≤ x2 ∧ x2 ≤ 255 := hb 2 (by simp)
      have e1 : (x1 * 256 + x2) / 256 = x1 := by omega
      have e2 : (x1 * 256 + x2) % 256 = x2 := by omega
      simp [odR, obL, e1, e2]
  · have hl' : xs.length = 3 := hl
    match xs, hl', h0 with
    | [x0, x1, x2], _, h0 =>
      have e : x0 = 2 := h0
      subst e
      have b1 : 0 ≤ x1 ∧ x1 ≤ 255 := hb 1 (by simp)
      have b2 : 0 ≤ x2 ∧ x2 ≤ 255 := hb 2 (by simp)
      have e1 : (x1 * 256 + x2) / 256 = x1 := by omega
      have e2 : (x1 * 256 + x2) % 256 = x2 := by omega
      simp [odR, obL, e1, e2]
  · have hl' : xs.length = 5 := hl
    match xs, hl', h0 with
    | [x0, x1, x2, x3, x4], _, h0 =>
      have e : x0 = 3 := h0
      subst e
      have b1 : 0 ≤ x3 ∧ x3 ≤ 255 := hb 3 (by simp)
      have b2 : 0 ≤ x4 ∧ x4 ≤ 255 := hb 4 (by simp)
      have e1 : (x3 * 256 + x4) / 256 = x3 := by omega
      have e2 : (x3 * 256 + x4) % 256 = x4 := by omega
      simp [odR, obL, e1, e2]
theorem head_k {p : Ow} {xs : List Int} (hp : omB p = true) (he : obL p = xs) : p.k = xs.getD 0 0 := by rw [← he]; exact (ob_head hp).1.symm
theorem isGet_short {k : Int} {xs : List Int} (hk : 0 ≤ k ∧ k ≤ 3) (h0 : xs.getD 0 0 = k) (hl : xs.length ≠ 1 + sS (ixs k)) : IsGet xs owZ false :=
  .inr ⟨rfl, rfl, fun p hp e => hl (by
    have hpk : p.k = k := (head_k hp e).trans h0
    rw [get_len hp e (by rw [hpk]; exact hk), hpk])⟩
theorem isGet_bad {xs : List Int} (h : omB (odR xs) = false) : IsGet xs owZ false :=
  .inr ⟨rfl, rfl, fun p hp e => by
    have : odR xs = p := by rw [← e, od_ob hp]
    rw [this, hp] at h
    cases h⟩
theorem isGet_good {k : Int} {xs : List Int} (hk : 0 ≤ k ∧ k ≤ 3) (hl : xs.length = 1 + sS (ixs k)) (h0 : xs.getD 0 0 = k) (hb : ∀ i, i < xs.length → 0 ≤ xs.getD i 0 ∧ xs.getD i 0 ≤ 255) (h : omB (odR xs) = true) : IsGet xs (odR xs) true := .inl ⟨rfl, h, get_back hk hl h0 hb⟩
theorem isGet_far {xs : List Int} (h : ¬ (0 ≤ xs.getD 0 0 ∧ xs.getD 0 0 ≤ 4)) : IsGet xs owZ false :=
  .inr ⟨rfl, rfl, fun p hp e => h (by rw [← head_k hp e]; exact om_kind hp)⟩
/-- A tick's bytes: ahead of the numbers stands how many they are. -/
theorem tick_ob {p : Ow} {xs : List Int} (hp : omB p = true) (he : obL p = xs) (hk : xs.getD 0 0 = 4) : ∃ d : List Int, xs = 4 :: (d.length : Int) :: d ∧ p = ⟨4, 0, ⟨0, 0, 0, 0, 0, 0⟩, 0, 0, 0, 0, 0, d⟩ := by
  have hpk := (head_k hp he).trans hk
  rcases om_cases hp with ⟨s, rfl, _⟩ | ⟨id, t, m, rfl, _⟩ | ⟨id, rfl, _⟩ | ⟨w, c, v, rfl, _⟩ | ⟨d, rfl, _⟩
  · simp at hpk
  · simp at hpk
  · simp at hpk
  · simp at hpk
  · exact ⟨d, he.symm, rfl⟩
theorem isGet_t1 {xs : List Int} (hk : xs.getD 0 0 = 4) (h : (xs.drop 1).length = 0 ∨ ((xs.drop 1).length : Int) - 1 < (xs.drop 1).getD 0 0) : IsGet xs owZ false :=
  .inr ⟨rfl, rfl, fun p hp e => by
    obtain ⟨d, hd, _⟩ := tick_ob hp e hk
    rw [hd] at h
    simp at h⟩
theorem isGet_t2 {xs : List Int} {n : Nat} (hk : xs.getD 0 0 = 4) (hn : (xs.drop 1).getD 0 0 = n) (h : (((xs.drop 1).drop 1).drop n).length ≠ 0) : IsGet xs owZ false :=
  .inr ⟨rfl, rfl, fun p hp e => h (by
    obtain ⟨d, hd, _⟩ := tick_ob hp e hk
    rw [hd] at hn ⊢
    simp at hn ⊢
    omega)⟩
def tkO (d : List Int) : Ow := ⟨4, 0, ⟨0, 0, 0, 0, 0, 0⟩, 0, 0, 0, 0, 0, d⟩
theorem isGet_t3 {xs : List Int} {n : Nat} (hk : xs.getD 0 0 = 4) (hl : 0 < (xs.drop 1).length) (hn : (xs.drop 1).getD 0 0 = n) (hle : n ≤ (xs.drop 1).length - 1) (h : (((xs.drop 1).drop 1).drop n).length = 0) : IsGet xs (bif omB (tkO (((xs.drop 1).drop 1).take n)) then tkO (((xs.drop 1).drop 1).take n) else owZ) (omB (tkO (((xs.drop 1).drop 1).take n))) := by
  match xs, hk, hl, hn, hle, h with
  | x0 :: x1 :: d, hk, hl, hn, hle, h =>
    have e0 : x0 = 4 := hk
    have e1 : x1 = n := hn
    have h' : (d.drop n).length = 0 := h
    have hle' : n ≤ (d.length + 1) - 1 := hle
    rw [List.length_drop] at h'
    have en : n = d.length := by omega
    subst e0 e1
    have et : (((4 :: (n : Int) :: d : List Int).drop 1).drop 1).take n = d := by
      show d.take n = d
      rw [en, List.take_length]
    rw [et]
    cases hm : omB (tkO d) with
    | true => exact .inl ⟨rfl, hm, by rw [en]; rfl⟩
    | false =>
      refine .inr ⟨rfl, rfl, fun p hp e => ?_⟩
      obtain ⟨d', hd, rfl⟩ := tick_ob hp e hk
      cases hd
      have : omB (tkO d) = true := hp
      rw [hm] at this; cases this
  | [x0], hk, hl, hn, hle, h => simp at hl
  | [], hk, hl, hn, hle, h => simp at hl
end Go.Proofs.Yteklcolphbcjlaa
