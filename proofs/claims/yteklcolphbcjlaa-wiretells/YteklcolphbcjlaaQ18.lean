/- Texts that belong together, one behind the other: BB26. -/
import Derived.Test.YteklcolphbcjlaaQ17
/- What may be asked is got from its bytes; bytes that ask are those of what they ask; no beginning of them asks anything. -/
namespace Go.Proofs.Yteklcolphbcjlaa
open Go.RowKit

set_option maxHeartbeats 8000000 in
set_option maxRecDepth 100000 in
theorem law_wback16 (ok oid ec et ex em ek ee ot om ow oc ov : Int) (dv : Value) (lf : Int) (ds xs : List Int) (v : Value) (w : World) (h : Nums w dv ds) (h' : Bys w v xs) :
    Calls Try.prog 4 #[.agg #[.int .i64 ok, .int .i64 oid, .int .i64 ec, .int .i64 et, .int .i64 ex, .int .i64 em, .int .i64 ek, .int .i64 ee, .int .i64 ot, .int .i64 om, .int .i64 ow, .int .i64 oc, .int .i64 ov, dv], v, .int .i64 lf] w fun e w' => e = .returned (.bool true) ∧ Below w.heap.size w w' := by
  obtain ⟨a, cap, rfl⟩ : ∃ a c, dv = .slice a ds.length c := by obtain ⟨a, c, e, _⟩ := h; exact ⟨a, c, e⟩
  have HN : Hid (∀ y, Below w.heap.size w y → Nums y (.slice a ds.length cap) ds) := fun y hy => h.later hy
  have HV : Hid (∀ y, Below w.heap.size w y → Bys y v xs) := fun y hy => h'.later hy
  obtain ⟨av, cv, rfl⟩ : ∃ a c, v = .slice a xs.length c := by obtain ⟨a, c, e, _⟩ := h'; exact ⟨a, c, e⟩
  have HB : Hid (Bk (w.alloc (.cells #[.int .i64 ok, .int .i64 oid, .int .i64 ec, .int .i64 et, .int .i64 ex, .int .i64 em, .int .i64 ek, .int .i64 ee, .int .i64 ot, .int .i64 om, .int .i64 ow, .int .i64 oc, .int .i64 ov, .slice a ds.length cap] 26)) w.heap.size [.int .i64 ok, .int .i64 oid, .int .i64 ec, .int .i64 et, .int .i64 ex, .int .i64 em, .int .i64 ek, .int .i64 ee, .int .i64 ot, .int .i64 om, .int .i64 ow, .int .i64 oc, .int .i64 ov, .slice a ds.length cap] ∧ Below w.heap.size w (w.alloc (.cells #[.int .i64 ok, .int .i64 oid, .int .i64 ec, .int .i64 et, .int .i64 ex, .int .i64 em, .int .i64 ek, .int .i64 ee, .int .i64 ot, .int .i64 om, .int .i64 ow, .int .i64 oc, .int .i64 ov, .slice a ds.length cap] 26))) := ⟨Bk.new w _ _, below_b1 _ _⟩
  clear h h'
  go_enter Try.func4, Try.ntmps4
  go_wp2_with fail
  refine (awake16_any _).mono ?_
  rintro e w1 ⟨rfl, hb1⟩
  have HC : Hid (Bk w1 w.heap.size [.int .i64 ok, .int .i64 oid, .int .i64 ec, .int .i64 et, .int .i64 ex, .int .i64 em, .int .i64 ek, .int .i64 ee, .int .i64 ot, .int .i64 om, .int .i64 ow, .int .i64 oc, .int .i64 ov, .slice a ds.length cap] ∧ Below w.heap.size w w1) := ⟨HB.out.1.later hb1, HB.out.2.trans (hb1.mono HB.out.2.size)⟩
  have e13 := HC.out.1.cell (i := 13) rfl
  clear hb1 HB
  by_cases cx : xs.length ≤ 100
  rotate_left
  · have cl' : (100 : Int) < xs.length := by omega
    go_wp2_with fail
    go_ret
    exact ⟨rfl, HC.out.2⟩
  have cx' : ¬ (100 : Int) < xs.length := by omega
  by_cases cd : ds.length ≤ 100
  rotate_left
  · have cl' : (100 : Int) < ds.length := by omega
    go_wp2_with fail
    go_ret
    exact ⟨rfl, HC.out.2⟩
  have cd' : ¬ (100 : Int) < ds.length := by omega
  have HL : Hid (xs.length ≤ 100 ∧ ds.length ≤ 100) := ⟨cx, cd⟩
  clear cx cd
  go_wp2_with (refine load_bk rfl 26 _ rfl w.heap.size 0 [.int .i64 ok, .int .i64 oid, .int .i64 ec, .int .i64 et, .int .i64 ex, .int .i64 em, .int .i64 ek, .int .i64 ee, .int .i64 ot, .int .i64 om, .int .i64 ow, .int .i64 oc, .int .i64 ov, .slice a ds.length cap] [.int .i64 ok, .int .i64 oid, .int .i64 ec, .int .i64 et, .int .i64 ex, .int .i64 em, .int .i64 ek, .int .i64 ee, .int .i64 ot, .int .i64 om, .int .i64 ow, .int .i64 oc, .int .i64 ov, .slice a ds.length cap] rfl HC.out.1 rfl _ Try.underlying26 rfl (by kernel_rfl) ?_)
  refine (wput16_any ok oid ec et ex em ek ee ot om ow oc ov (.slice a ds.length cap) ds _ (HN.out _ HC.out.2)).mono ?_
  rintro e w2 ⟨v2, rfl, ho2, hb2⟩
  have HD : Hid (Bk w2 w.heap.size [.int .i64 ok, .int .i64 oid, .int .i64 ec, .int .i64 et, .int .i64 ex, .int .i64 em, .int .i64 ek, .int .i64 ee, .int .i64 ot, .int .i64 om, .int .i64 ow, .int .i64 oc, .int .i64 ov, .slice a ds.length cap] ∧ Below w.heap.size w w2 ∧ Bys w2 v2 (bif omB ⟨ok, oid, ⟨ec, et, ex, em, ek, ee⟩, ot, om, ow, oc, ov, ds⟩ then obL ⟨ok, oid, ⟨ec, et, ex, em, ek, ee⟩, ot, om, ow, oc, ov, ds⟩ else [])) := ⟨HC.out.1.later hb2, HC.out.2.trans (hb2.mono HC.out.2.size), put_bys ho2⟩
  obtain ⟨a2, c2, rfl⟩ := ho2.sl
  clear ho2 hb2 HC e13
  go_wp2_with (refine load_bk rfl 26 _ rfl w.heap.size 0 [.int .i64 ok, .int .i64 oid, .int .i64 ec, .int .i64 et, .int .i64 ex, .int .i64 em, .int .i64 ek, .int .i64 ee, .int .i64 ot, .int .i64 om, .int .i64 ow, .int .i64 oc, .int .i64 ov, .slice a ds.length cap] [.int .i64 ok, .int .i64 oid, .int .i64 ec, .int .i64 et, .int .i64 ex, .int .i64 em, .int .i64 ek, .int .i64 ee, .int .i64 ot, .int .i64 om, .int .i64 ow, .int .i64 oc, .int .i64 ov, .slice a ds.length cap] rfl HD.out.1 rfl _ Try.underlying26 rfl (by kernel_rfl) ?_)
  refine (wmay16_any ok oid ec et ex em ek ee ot om ow oc ov (.slice a ds.length cap) ds _ (HN.out _ HD.out.2.1)).mono ?_
  rintro e w3 ⟨rfl, hb3⟩
  have HE : Hid (Bk w3 w.heap.size [.int .i64 ok, .int .i64 oid, .int .i64 ec, .int .i64 et, .int .i64 ex, .int .i64 em, .int .i64 ek, .int .i64 ee, .int .i64 ot, .int .i64 om, .int .i64 ow, .int .i64 oc, .int .i64 ov, .slice a ds.length cap] ∧ Below w.heap.size w w3 ∧ Bys w3 (.slice a2 (bif omB ⟨ok, oid, ⟨ec, et, ex, em, ek, ee⟩, ot, om, ow, oc, ov, ds⟩ then obL ⟨ok, oid, ⟨ec, et, ex, em, ek, ee⟩, ot, om, ow, oc, ov, ds⟩ else []).length c2) (bif omB ⟨ok, oid, ⟨ec, et, ex, em, ek, ee⟩, ot, om, ow, oc, ov, ds⟩ then obL ⟨ok, oid, ⟨ec, et, ex, em, ek, ee⟩, ot, om, ow, oc, ov, ds⟩ else [])) := ⟨HD.out.1.later hb3, HD.out.2.1.trans (hb3.mono HD.out.2.1.size), HD.out.2.2.later hb3⟩
  clear hb3 HD
  cases hm : omB ⟨ok, oid, ⟨ec, et, ex, em, ek, ee⟩, ot, om, ow, oc, ov, ds⟩ with
  | false =>
    have HB : Hid (Below w.heap.size w w3) := HE.out.2.1
    clear hm HE
    show _
    go_wp2_with fail
    refine (wget16_any xs _ _ (HV.out _ HB.out)).mono ?_
    rintro e w7 ⟨gk, gid, ga, gb, gx, gm, gc, ge, gt, gn, gw, gq, gv, gdv, gds, gy, rfl, hd7, hg7, hb7⟩
    obtain ⟨azg, zzg, czg, rfl⟩ : ∃ a z c, gdv = .slice a z c := by obtain ⟨a, c, e, _⟩ := hd7; exact ⟨a, _, c, e⟩
    have hb7' := (HB.out).trans (hb7.mono (HB.out).size)
    have H7 : Hid (Below w.heap.size w (w7.alloc (.cells #[.int .i64 gk, .int .i64 gid, .int .i64 ga, .int .i64 gb, .int .i64 gx, .int .i64 gm, .int .i64 gc, .int .i64 ge, .int .i64 gt, .int .i64 gn, .int .i64 gw, .int .i64 gq, .int .i64 gv, .slice azg zzg czg] 26)) ∧ Nums (w7.alloc (.cells #[.int .i64 gk, .int .i64 gid, .int .i64 ga, .int .i64 gb, .int .i64 gx, .int .i64 gm, .int .i64 gc, .int .i64 ge, .int .i64 gt, .int .i64 gn, .int .i64 gw, .int .i64 gq, .int .i64 gv, .slice azg zzg czg] 26)) (.slice azg zzg czg) gds ∧ IsGet xs ⟨gk, gid, ⟨ga, gb, gx, gm, gc, ge⟩, gt, gn, gw, gq, gv, gds⟩ gy ∧ Bk (w7.alloc (.cells #[.int .i64 gk, .int .i64 gid, .int .i64 ga, .int .i64 gb, .int .i64 gx, .int .i64 gm, .int .i64 gc, .int .i64 ge, .int .i64 gt, .int .i64 gn, .int .i64 gw, .int .i64 gq, .int .i64 gv, .slice azg zzg czg] 26)) w7.heap.size [.int .i64 gk, .int .i64 gid, .int .i64 ga, .int .i64 gb, .int .i64 gx, .int .i64 gm, .int .i64 gc, .int .i64 ge, .int .i64 gt, .int .i64 gn, .int .i64 gw, .int .i64 gq, .int .i64 gv, .slice azg zzg czg]) := ⟨hb7'.alloc hb7'.size _, hd7.later (below_b1 _ _), hg7, Bk.new _ _ _⟩
    clear hd7 hg7 hb7 hb7'
    go_wp2_with (refine load_bk rfl 26 _ rfl w7.heap.size 0 [.int .i64 gk, .int .i64 gid, .int .i64 ga, .int .i64 gb, .int .i64 gx, .int .i64 gm, .int .i64 gc, .int .i64 ge, .int .i64 gt, .int .i64 gn, .int .i64 gw, .int .i64 gq, .int .i64 gv, .slice azg zzg czg] [.int .i64 gk, .int .i64 gid, .int .i64 ga, .int .i64 gb, .int .i64 gx, .int .i64 gm, .int .i64 gc, .int .i64 ge, .int .i64 gt, .int .i64 gn, .int .i64 gw, .int .i64 gq, .int .i64 gv, .slice azg zzg czg] rfl H7.out.2.2.2 rfl _ Try.underlying26 rfl (by kernel_rfl) ?_)
    refine (wput16_any gk gid ga gb gx gm gc ge gt gn gw gq gv (.slice azg zzg czg) gds _ H7.out.2.1).mono ?_
    rintro e w8 ⟨v8, rfl, ho8, hb8⟩
    have H8 : Hid (Below w.heap.size w w8 ∧ Bys w8 v8 (bif omB ⟨gk, gid, ⟨ga, gb, gx, gm, gc, ge⟩, gt, gn, gw, gq, gv, gds⟩ then obL ⟨gk, gid, ⟨ga, gb, gx, gm, gc, ge⟩, gt, gn, gw, gq, gv, gds⟩ else [])) := ⟨H7.out.1.trans (hb8.mono H7.out.1.size), put_bys ho8⟩
    clear ho8 hb8
    rcases H7.out.2.2.1 with ⟨rfl, hm8, hx8⟩ | ⟨rfl, _, _⟩
    · have hao : (bif omB ⟨gk, gid, ⟨ga, gb, gx, gm, gc, ge⟩, gt, gn, gw, gq, gv, gds⟩ then obL ⟨gk, gid, ⟨ga, gb, gx, gm, gc, ge⟩, gt, gn, gw, gq, gv, gds⟩ else []) = xs := by rw [hm8]; exact hx8
      rw [hao] at H8
      rw [hm8]
      clear hao hm8 hx8 H7
      go_wp2_with fail
      refine (bytes_any xs xs _ _ _ H8.out.2 (HV.out _ H8.out.1) (by have := HL.out.1; omega)).mono ?_
      rintro r w9 ⟨rfl, hb9⟩
      have hs : sameB xs xs = true := by simp [sameB]
      rw [hs]
      have HZ := H8.out.1.trans (hb9.mono H8.out.1.size)
      clear hb9 H8 hs
      go_wp2_with fail
      go_ret
      exact ⟨rfl, HZ⟩
    · clear H7
      go_wp2_with fail
      go_ret
      exact ⟨rfl, H8.out.1⟩
  | true =>
    rw [hm] at HE
    have hX : (bif true then obL ⟨ok, oid, ⟨ec, et, ex, em, ek, ee⟩, ot, om, ow, oc, ov, ds⟩ else []) = obL ⟨ok, oid, ⟨ec, et, ex, em, ek, ee⟩, ot, om, ow, oc, ov, ds⟩ := rfl
    rw [hX] at HE ⊢
    have HM : Hid (omB ⟨ok, oid, ⟨ec, et, ex, em, ek, ee⟩, ot, om, ow, oc, ov, ds⟩ = true ∧ IsGet (obL ⟨ok, oid, ⟨ec, et, ex, em, ek, ee⟩, ot, om, ow, oc, ov, ds⟩) ⟨ok, oid, ⟨ec, et, ex, em, ek, ee⟩, ot, om, ow, oc, ov, ds⟩ true ∧ ds.length ≤ 1000) := ⟨hm, isGet_put hm, by have := HL.out.2; omega⟩
    have hh := ob_head hm
    clear hm hX
    have HX : Hid (0 < (obL ⟨ok, oid, ⟨ec, et, ex, em, ek, ee⟩, ot, om, ow, oc, ov, ds⟩).length ∧ ∀ n, n < (obL ⟨ok, oid, ⟨ec, et, ex, em, ek, ee⟩, ot, om, ow, oc, ov, ds⟩).length → ∀ p, omB p = true → obL p ≠ (obL ⟨ok, oid, ⟨ec, et, ex, em, ek, ee⟩, ot, om, ow, oc, ov, ds⟩).take n) := ⟨hh.2, fun n hn p hp => ob_short HM.out.1 hp hn⟩
    clear hh
    generalize obL ⟨ok, oid, ⟨ec, et, ex, em, ek, ee⟩, ot, om, ow, oc, ov, ds⟩ = X at *
    obtain ⟨m, hmm⟩ : ∃ m, X.length = m := ⟨_, rfl⟩
    rw [hmm] at HE HX ⊢
    have HXM : Hid (X.length = m) := hmm
    clear hmm
    go_wp2_with fail
    refine (wget16_any X _ _ HE.out.2.2).mono ?_
    rintro e w4 ⟨fk, fid, fa, fb, fx, fm, fc, fe, ft, fn, fw, fq, fv, fdv, fds, fy, rfl, hd4, hg4, hb4⟩
    obtain ⟨azf, zzf, czf, rfl⟩ : ∃ a z c, fdv = .slice a z c := by obtain ⟨a, c, e, _⟩ := hd4; exact ⟨a, _, c, e⟩
    obtain ⟨he, rfl⟩ := hg4.unique HM.out.2.1
    simp only [Ow.mk.injEq, Sp.mk.injEq] at he
    obtain ⟨rfl, rfl, ⟨rfl, rfl, rfl, rfl, rfl, rfl⟩, rfl, rfl, rfl, rfl, rfl, rfl⟩ := he
    have hb4' := HE.out.2.1.trans (hb4.mono HE.out.2.1.size)
    have HF : Hid (Below w.heap.size w (w4.alloc (.cells #[.int .i64 fk, .int .i64 fid, .int .i64 fa, .int .i64 fb, .int .i64 fx, .int .i64 fm, .int .i64 fc, .int .i64 fe, .int .i64 ft, .int .i64 fn, .int .i64 fw, .int .i64 fq, .int .i64 fv, .slice azf zzf czf] 26)) ∧ Nums (w4.alloc (.cells #[.int .i64 fk, .int .i64 fid, .int .i64 fa, .int .i64 fb, .int .i64 fx, .int .i64 fm, .int .i64 fc, .int .i64 fe, .int .i64 ft, .int .i64 fn, .int .i64 fw, .int .i64 fq, .int .i64 fv, .slice azf zzf czf] 26)) (.slice azf zzf czf) fds ∧ Bk (w4.alloc (.cells #[.int .i64 fk, .int .i64 fid, .int .i64 fa, .int .i64 fb, .int .i64 fx, .int .i64 fm, .int .i64 fc, .int .i64 fe, .int .i64 ft, .int .i64 fn, .int .i64 fw, .int .i64 fq, .int .i64 fv, .slice azf zzf czf] 26)) w4.heap.size [.int .i64 fk, .int .i64 fid, .int .i64 fa, .int .i64 fb, .int .i64 fx, .int .i64 fm, .int .i64 fc, .int .i64 fe, .int .i64 ft, .int .i64 fn, .int .i64 fw, .int .i64 fq, .int .i64 fv, .slice azf zzf czf] ∧ Bk (w4.alloc (.cells #[.int .i64 fk, .int .i64 fid, .int .i64 fa, .int .i64 fb, .int .i64 fx, .int .i64 fm, .int .i64 fc, .int .i64 fe, .int .i64 ft, .int .i64 fn, .int .i64 fw, .int .i64 fq, .int .i64 fv, .slice azf zzf czf] 26)) w.heap.size [.int .i64 fk, .int .i64 fid, .int .i64 fa, .int .i64 fb, .int .i64 fx, .int .i64 fm, .int .i64 fc, .int .i64 fe, .int .i64 ft, .int .i64 fn, .int .i64 fw, .int .i64 fq, .int .i64 fv, .slice a fds.length cap] ∧ Bys (w4.alloc (.cells #[.int .i64 fk, .int .i64 fid, .int .i64 fa, .int .i64 fb, .int .i64 fx, .int .i64 fm, .int .i64 fc, .int .i64 fe, .int .i64 ft, .int .i64 fn, .int .i64 fw, .int .i64 fq, .int .i64 fv, .slice azf zzf czf] 26)) (.slice a2 m c2) X) := ⟨hb4'.alloc hb4'.size _, hd4.later (below_b1 _ _), Bk.new _ _ _, (HE.out.1.later hb4).later (below_b1 _ _), (HE.out.2.2.later hb4).later (below_b1 _ _)⟩
    clear hd4 hg4 hb4 hb4' HE
    go_wp2_with (first
      | (refine load_bkG rfl 26 _ rfl w4.heap.size 0 [.int .i64 fk, .int .i64 fid, .int .i64 fa, .int .i64 fb, .int .i64 fx, .int .i64 fm, .int .i64 fc, .int .i64 fe, .int .i64 ft, .int .i64 fn, .int .i64 fw, .int .i64 fq, .int .i64 fv, .slice azf zzf czf] [.int .i64 fk, .int .i64 fid, .int .i64 fa, .int .i64 fb, .int .i64 fx, .int .i64 fm, .int .i64 fc, .int .i64 fe, .int .i64 ft, .int .i64 fn, .int .i64 fw, .int .i64 fq, .int .i64 fv, .slice azf zzf czf] rfl HF.out.2.2.1 rfl _ Try.underlying26 rfl (by kernel_rfl) ?_)
      | (refine load_bkG rfl 26 _ rfl w.heap.size 0 [.int .i64 fk, .int .i64 fid, .int .i64 fa, .int .i64 fb, .int .i64 fx, .int .i64 fm, .int .i64 fc, .int .i64 fe, .int .i64 ft, .int .i64 fn, .int .i64 fw, .int .i64 fq, .int .i64 fv, .slice a fds.length cap] [.int .i64 fk, .int .i64 fid, .int .i64 fa, .int .i64 fb, .int .i64 fx, .int .i64 fm, .int .i64 fc, .int .i64 fe, .int .i64 ft, .int .i64 fn, .int .i64 fw, .int .i64 fq, .int .i64 fv, .slice a fds.length cap] rfl HF.out.2.2.2.1 rfl _ Try.underlying26 rfl (by kernel_rfl) ?_))
    refine (osame_any fk fid fa fb fx fm fc fe ft fn fw fq fv (.slice azf zzf czf) fk fid fa fb fx fm fc fe ft fn fw fq fv (.slice a fds.length cap) fds fds _ HF.out.2.1 (HN.out _ HF.out.1) HM.out.2.2 HM.out.2.2).mono ?_
    rintro e w5 ⟨rfl, hb5⟩
    have hsm : smO ⟨fk, fid, ⟨fa, fb, fx, fm, fc, fe⟩, ft, fn, fw, fq, fv, fds⟩ ⟨fk, fid, ⟨fa, fb, fx, fm, fc, fe⟩, ft, fn, fw, fq, fv, fds⟩ = true := (smO_iff _ _).2 rfl
    rw [hsm]
    have HG : Hid (Below w.heap.size w w5 ∧ Bys w5 (.slice a2 m c2) X) := ⟨HF.out.1.trans (hb5.mono HF.out.1.size), HF.out.2.2.2.2.later hb5⟩
    clear hsm hb5 HF
    by_cases c0 : 0 ≤ lf
    rotate_left
    · have HB : Hid (Below w.heap.size w w5) := HG.out.1
      clear HG
      go_wp2_with fail
      refine (wget16_any xs _ _ (HV.out _ HB.out)).mono ?_
      rintro e w7 ⟨gk, gid, ga, gb, gx, gm, gc, ge, gt, gn, gw, gq, gv, gdv, gds, gy, rfl, hd7, hg7, hb7⟩
      obtain ⟨azg, zzg, czg, rfl⟩ : ∃ a z c, gdv = .slice a z c := by obtain ⟨a, c, e, _⟩ := hd7; exact ⟨a, _, c, e⟩
      have hb7' := (HB.out).trans (hb7.mono (HB.out).size)
      have H7 : Hid (Below w.heap.size w (w7.alloc (.cells #[.int .i64 gk, .int .i64 gid, .int .i64 ga, .int .i64 gb, .int .i64 gx, .int .i64 gm, .int .i64 gc, .int .i64 ge, .int .i64 gt, .int .i64 gn, .int .i64 gw, .int .i64 gq, .int .i64 gv, .slice azg zzg czg] 26)) ∧ Nums (w7.alloc (.cells #[.int .i64 gk, .int .i64 gid, .int .i64 ga, .int .i64 gb, .int .i64 gx, .int .i64 gm, .int .i64 gc, .int .i64 ge, .int .i64 gt, .int .i64 gn, .int .i64 gw, .int .i64 gq, .int .i64 gv, .slice azg zzg czg] 26)) (.slice azg zzg czg) gds ∧ IsGet xs ⟨gk, gid, ⟨ga, gb, gx, gm, gc, ge⟩, gt, gn, gw, gq, gv, gds⟩ gy ∧ Bk (w7.alloc (.cells #[.int .i64 gk, .int .i64 gid, .int .i64 ga, .int .i64 gb, .int .i64 gx, .int .i64 gm, .int .i64 gc, .int .i64 ge, .int .i64 gt, .int .i64 gn, .int .i64 gw, .int .i64 gq, .int .i64 gv, .slice azg zzg czg] 26)) w7.heap.size [.int .i64 gk, .int .i64 gid, .int .i64 ga, .int .i64 gb, .int .i64 gx, .int .i64 gm, .int .i64 gc, .int .i64 ge, .int .i64 gt, .int .i64 gn, .int .i64 gw, .int .i64 gq, .int .i64 gv, .slice azg zzg czg]) := ⟨hb7'.alloc hb7'.size _, hd7.later (below_b1 _ _), hg7, Bk.new _ _ _⟩
      clear hd7 hg7 hb7 hb7'
      go_wp2_with (refine load_bk rfl 26 _ rfl w7.heap.size 0 [.int .i64 gk, .int .i64 gid, .int .i64 ga, .int .i64 gb, .int .i64 gx, .int .i64 gm, .int .i64 gc, .int .i64 ge, .int .i64 gt, .int .i64 gn, .int .i64 gw, .int .i64 gq, .int .i64 gv, .slice azg zzg czg] [.int .i64 gk, .int .i64 gid, .int .i64 ga, .int .i64 gb, .int .i64 gx, .int .i64 gm, .int .i64 gc, .int .i64 ge, .int .i64 gt, .int .i64 gn, .int .i64 gw, .int .i64 gq, .int .i64 gv, .slice azg zzg czg] rfl H7.out.2.2.2 rfl _ Try.underlying26 rfl (by kernel_rfl) ?_)
      refine (wput16_any gk gid ga gb gx gm gc ge gt gn gw gq gv (.slice azg zzg czg) gds _ H7.out.2.1).mono ?_
      rintro e w8 ⟨v8, rfl, ho8, hb8⟩
      have H8 : Hid (Below w.heap.size w w8 ∧ Bys w8 v8 (bif omB ⟨gk, gid, ⟨ga, gb, gx, gm, gc, ge⟩, gt, gn, gw, gq, gv, gds⟩ then obL ⟨gk, gid, ⟨ga, gb, gx, gm, gc, ge⟩, gt, gn, gw, gq, gv, gds⟩ else [])) := ⟨H7.out.1.trans (hb8.mono H7.out.1.size), put_bys ho8⟩
      clear ho8 hb8
      rcases H7.out.2.2.1 with ⟨rfl, hm8, hx8⟩ | ⟨rfl, _, _⟩
      · have hao : (bif omB ⟨gk, gid, ⟨ga, gb, gx, gm, gc, ge⟩, gt, gn, gw, gq, gv, gds⟩ then obL ⟨gk, gid, ⟨ga, gb, gx, gm, gc, ge⟩, gt, gn, gw, gq, gv, gds⟩ else []) = xs := by rw [hm8]; exact hx8
        rw [hao] at H8
        rw [hm8]
        clear hao hm8 hx8 H7
        go_wp2_with fail
        refine (bytes_any xs xs _ _ _ H8.out.2 (HV.out _ H8.out.1) (by have := HL.out.1; omega)).mono ?_
        rintro r w9 ⟨rfl, hb9⟩
        have hs : sameB xs xs = true := by simp [sameB]
        rw [hs]
        have HZ := H8.out.1.trans (hb9.mono H8.out.1.size)
        clear hb9 H8 hs
        go_wp2_with fail
        go_ret
        exact ⟨rfl, HZ⟩
      · clear H7
        go_wp2_with fail
        go_ret
        exact ⟨rfl, H8.out.1⟩
    obtain ⟨n, rfl⟩ : ∃ n : Nat, lf = n := ⟨lf.toNat, by omega⟩
    by_cases c1 : (n : Int) < m
    rotate_left
    · have HB : Hid (Below w.heap.size w w5) := HG.out.1
      clear HG
      go_wp2_with fail
      refine (wget16_any xs _ _ (HV.out _ HB.out)).mono ?_
      rintro e w7 ⟨gk, gid, ga, gb, gx, gm, gc, ge, gt, gn, gw, gq, gv, gdv, gds, gy, rfl, hd7, hg7, hb7⟩
      obtain ⟨azg, zzg, czg, rfl⟩ : ∃ a z c, gdv = .slice a z c := by obtain ⟨a, c, e, _⟩ := hd7; exact ⟨a, _, c, e⟩
      have hb7' := (HB.out).trans (hb7.mono (HB.out).size)
      have H7 : Hid (Below w.heap.size w (w7.alloc (.cells #[.int .i64 gk, .int .i64 gid, .int .i64 ga, .int .i64 gb, .int .i64 gx, .int .i64 gm, .int .i64 gc, .int .i64 ge, .int .i64 gt, .int .i64 gn, .int .i64 gw, .int .i64 gq, .int .i64 gv, .slice azg zzg czg] 26)) ∧ Nums (w7.alloc (.cells #[.int .i64 gk, .int .i64 gid, .int .i64 ga, .int .i64 gb, .int .i64 gx, .int .i64 gm, .int .i64 gc, .int .i64 ge, .int .i64 gt, .int .i64 gn, .int .i64 gw, .int .i64 gq, .int .i64 gv, .slice azg zzg czg] 26)) (.slice azg zzg czg) gds ∧ IsGet xs ⟨gk, gid, ⟨ga, gb, gx, gm, gc, ge⟩, gt, gn, gw, gq, gv, gds⟩ gy ∧ Bk (w7.alloc (.cells #[.int .i64 gk, .int .i64 gid, .int .i64 ga, .int .i64 gb, .int .i64 gx, .int .i64 gm, .int .i64 gc, .int .i64 ge, .int .i64 gt, .int .i64 gn, .int .i64 gw, .int .i64 gq, .int .i64 gv, .slice azg zzg czg] 26)) w7.heap.size [.int .i64 gk, .int .i64 gid, .int .i64 ga, .int .i64 gb, .int .i64 gx, .int .i64 gm, .int .i64 gc, .int .i64 ge, .int .i64 gt, .int .i64 gn, .int .i64 gw, .int .i64 gq, .int .i64 gv, .slice azg zzg czg]) := ⟨hb7'.alloc hb7'.size _, hd7.later (below_b1 _ _), hg7, Bk.new _ _ _⟩
      clear hd7 hg7 hb7 hb7'
      go_wp2_with (refine load_bk rfl 26 _ rfl w7.heap.size 0 [.int .i64 gk, .int .i64 gid, .int .i64 ga, .int .i64 gb, .int .i64 gx, .int .i64 gm, .int .i64 gc, .int .i64 ge, .int .i64 gt, .int .i64 gn, .int .i64 gw, .int .i64 gq, .int .i64 gv, .slice azg zzg czg] [.int .i64 gk, .int .i64 gid, .int .i64 ga, .int .i64 gb, .int .i64 gx, .int .i64 gm, .int .i64 gc, .int .i64 ge, .int .i64 gt, .int .i64 gn, .int .i64 gw, .int .i64 gq, .int .i64 gv, .slice azg zzg czg] rfl H7.out.2.2.2 rfl _ Try.underlying26 rfl (by kernel_rfl) ?_)
      refine (wput16_any gk gid ga gb gx gm gc ge gt gn gw gq gv (.slice azg zzg czg) gds _ H7.out.2.1).mono ?_
      rintro e w8 ⟨v8, rfl, ho8, hb8⟩
      have H8 : Hid (Below w.heap.size w w8 ∧ Bys w8 v8 (bif omB ⟨gk, gid, ⟨ga, gb, gx, gm, gc, ge⟩, gt, gn, gw, gq, gv, gds⟩ then obL ⟨gk, gid, ⟨ga, gb, gx, gm, gc, ge⟩, gt, gn, gw, gq, gv, gds⟩ else [])) := ⟨H7.out.1.trans (hb8.mono H7.out.1.size), put_bys ho8⟩
      clear ho8 hb8
      rcases H7.out.2.2.1 with ⟨rfl, hm8, hx8⟩ | ⟨rfl, _, _⟩
      · have hao : (bif omB ⟨gk, gid, ⟨ga, gb, gx, gm, gc, ge⟩, gt, gn, gw, gq, gv, gds⟩ then obL ⟨gk, gid, ⟨ga, gb, gx, gm, gc, ge⟩, gt, gn, gw, gq, gv, gds⟩ else []) = xs := by rw [hm8]; exact hx8
        rw [hao] at H8
        rw [hm8]
        clear hao hm8 hx8 H7
        go_wp2_with fail
        refine (bytes_any xs xs _ _ _ H8.out.2 (HV.out _ H8.out.1) (by have := HL.out.1; omega)).mono ?_
        rintro r w9 ⟨rfl, hb9⟩
        have hs : sameB xs xs = true := by simp [sameB]
        rw [hs]
        have HZ := H8.out.1.trans (hb9.mono H8.out.1.size)
        clear hb9 H8 hs
        go_wp2_with fail
        go_ret
        exact ⟨rfl, HZ⟩
      · clear H7
        go_wp2_with fail
        go_ret
        exact ⟨rfl, H8.out.1⟩
    have HG2 := HG.out.2
    obtain ⟨at2, ct2, e2, g1, g2, g3, g4, g5⟩ := HG2
    have HXL := HXM.out
    cases e2
    obtain ⟨bb, oo, rfl, _⟩ := g5 (by intro e; have h0 := HX.out.1; rw [e] at h0; simp at h0)
    have n1 : (n : Int) ≤ c2 := by omega
    have n2 : n ≤ c2 := by omega
    have n3 : n < X.length := by omega
    have HS : Hid (Bys w5 (.slice (some ⟨bb, oo, none⟩) n c2) (X.take n) ∧ ∀ p, omB p = true → obL p ≠ X.take n) := by
      have hf := HG.out.2.fore (S := n) (Nat.le_of_lt n3)
      rw [List.length_take, Nat.min_eq_left (Nat.le_of_lt n3)] at hf
      exact ⟨hf, HX.out.2 n (by omega)⟩
    clear g1 g2 g3 g4 g5 HXL
    go_wp2_with fail
    refine (wget16_any (X.take n) _ _ HS.out.1).mono ?_
    rintro e w6 ⟨hk, hid, ha, hb, hx, hm, hc, he, ht, hn, hw, hq, hv, hdv, hds, hy, rfl, hd6, hg6, hb6⟩
    obtain ⟨azh, zzh, czh, rfl⟩ : ∃ a z c, hdv = .slice a z c := by obtain ⟨a, c, e, _⟩ := hd6; exact ⟨a, _, c, e⟩
    obtain rfl : hy = false := by
      rcases hg6 with ⟨_, h1, h2⟩ | ⟨h1, _⟩
      · exact absurd h2 (HS.out.2 _ h1)
      · exact h1
    have hb6' := HG.out.1.trans (hb6.mono HG.out.1.size)
    have HB : Hid (Below w.heap.size w (w6.alloc (.cells #[.int .i64 hk, .int .i64 hid, .int .i64 ha, .int .i64 hb, .int .i64 hx, .int .i64 hm, .int .i64 hc, .int .i64 he, .int .i64 ht, .int .i64 hn, .int .i64 hw, .int .i64 hq, .int .i64 hv, .slice azh zzh czh] 26))) := hb6'.alloc hb6'.size _
    clear hd6 hg6 hb6 hb6' HS HG
    go_wp2_with fail
    refine (wget16_any xs _ _ (HV.out _ HB.out)).mono ?_
    rintro e w7 ⟨gk, gid, ga, gb, gx, gm, gc, ge, gt, gn, gw, gq, gv, gdv, gds, gy, rfl, hd7, hg7, hb7⟩
    obtain ⟨azg, zzg, czg, rfl⟩ : ∃ a z c, gdv = .slice a z c := by obtain ⟨a, c, e, _⟩ := hd7; exact ⟨a, _, c, e⟩
    have hb7' := (HB.out).trans (hb7.mono (HB.out).size)
    have H7 : Hid (Below w.heap.size w (w7.alloc (.cells #[.int .i64 gk, .int .i64 gid, .int .i64 ga, .int .i64 gb, .int .i64 gx, .int .i64 gm, .int .i64 gc, .int .i64 ge, .int .i64 gt, .int .i64 gn, .int .i64 gw, .int .i64 gq, .int .i64 gv, .slice azg zzg czg] 26)) ∧ Nums (w7.alloc (.cells #[.int .i64 gk, .int .i64 gid, .int .i64 ga, .int .i64 gb, .int .i64 gx, .int .i64 gm, .int .i64 gc, .int .i64 ge, .int .i64 gt, .int .i64 gn, .int .i64 gw, .int .i64 gq, .int .i64 gv, .slice azg zzg czg] 26)) (.slice azg zzg czg) gds ∧ IsGet xs ⟨gk, gid, ⟨ga, gb, gx, gm, gc, ge⟩, gt, gn, gw, gq, gv, gds⟩ gy ∧ Bk (w7.alloc (.cells #[.int .i64 gk, .int .i64 gid, .int .i64 ga, .int .i64 gb, .int .i64 gx, .int .i64 gm, .int .i64 gc, .int .i64 ge, .int .i64 gt, .int .i64 gn, .int .i64 gw, .int .i64 gq, .int .i64 gv, .slice azg zzg czg] 26)) w7.heap.size [.int .i64 gk, .int .i64 gid, .int .i64 ga, .int .i64 gb, .int .i64 gx, .int .i64 gm, .int .i64 gc, .int .i64 ge, .int .i64 gt, .int .i64 gn, .int .i64 gw, .int .i64 gq, .int .i64 gv, .slice azg zzg czg]) := ⟨hb7'.alloc hb7'.size _, hd7.later (below_b1 _ _), hg7, Bk.new _ _ _⟩
    clear hd7 hg7 hb7 hb7'
    go_wp2_with (refine load_bk rfl 26 _ rfl w7.heap.size 0 [.int .i64 gk, .int .i64 gid, .int .i64 ga, .int .i64 gb, .int .i64 gx, .int .i64 gm, .int .i64 gc, .int .i64 ge, .int .i64 gt, .int .i64 gn, .int .i64 gw, .int .i64 gq, .int .i64 gv, .slice azg zzg czg] [.int .i64 gk, .int .i64 gid, .int .i64 ga, .int .i64 gb, .int .i64 gx, .int .i64 gm, .int .i64 gc, .int .i64 ge, .int .i64 gt, .int .i64 gn, .int .i64 gw, .int .i64 gq, .int .i64 gv, .slice azg zzg czg] rfl H7.out.2.2.2 rfl _ Try.underlying26 rfl (by kernel_rfl) ?_)
    refine (wput16_any gk gid ga gb gx gm gc ge gt gn gw gq gv (.slice azg zzg czg) gds _ H7.out.2.1).mono ?_
    rintro e w8 ⟨v8, rfl, ho8, hb8⟩
    have H8 : Hid (Below w.heap.size w w8 ∧ Bys w8 v8 (bif omB ⟨gk, gid, ⟨ga, gb, gx, gm, gc, ge⟩, gt, gn, gw, gq, gv, gds⟩ then obL ⟨gk, gid, ⟨ga, gb, gx, gm, gc, ge⟩, gt, gn, gw, gq, gv, gds⟩ else [])) := ⟨H7.out.1.trans (hb8.mono H7.out.1.size), put_bys ho8⟩
    clear ho8 hb8
    rcases H7.out.2.2.1 with ⟨rfl, hm8, hx8⟩ | ⟨rfl, _, _⟩
    · have hao : (bif omB ⟨gk, gid, ⟨ga, gb, gx, gm, gc, ge⟩, gt, gn, gw, gq, gv, gds⟩ then obL ⟨gk, gid, ⟨ga, gb, gx, gm, gc, ge⟩, gt, gn, gw, gq, gv, gds⟩ else []) = xs := by rw [hm8]; exact hx8
      rw [hao] at H8
      rw [hm8]
      clear hao hm8 hx8 H7
      go_wp2_with fail
      refine (bytes_any xs xs _ _ _ H8.out.2 (HV.out _ H8.out.1) (by have := HL.out.1; omega)).mono ?_
      rintro r w9 ⟨rfl, hb9⟩
      have hs : sameB xs xs = true := by simp [sameB]
      rw [hs]
      have HZ := H8.out.1.trans (hb9.mono H8.out.1.size)
      clear hb9 H8 hs
      go_wp2_with fail
      go_ret
      exact ⟨rfl, HZ⟩
    · clear H7
      go_wp2_with fail
      go_ret
      exact ⟨rfl, H8.out.1⟩
end Go.Proofs.Yteklcolphbcjlaa
