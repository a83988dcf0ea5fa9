/- Walks of package job: May. -/
import Derived.Test.YthbppojglhimnaaJ6
namespace Go.Proofs.Ythbppojglhimnaa
open Go.RowKit Go.Shelf

theorem jm_eq {s : Sp} (j : Jb) (hs : maySp s = true) : jmB s j = (zeB j || isB s j) := by
  unfold jmB isB
  rw [hs]
  cases h : j.on with
  | true => simp [zeB, h]
  | false => simp
set_option maxHeartbeats 2000000 in
set_option maxRecDepth 100000 in
theorem jmay_any (ec et ex em ek ee : Int) (o : Bool) (n r u : Int) (b : Bool) (c d x : Int) (w : World) :
    Calls Try.prog 27 #[.agg #[.int .i64 ec, .int .i64 et, .int .i64 ex, .int .i64 em, .int .i64 ek, .int .i64 ee], .agg #[.bool o, .int .i64 n, .int .i64 r, .int .i64 u, .bool b, .int .i64 c, .int .i64 d, .int .i64 x]] w fun e w' => e = .returned (.bool (jmB ⟨ec, et, ex, em, ek, ee⟩ ⟨o, n, r, u, b, c, d, x⟩)) ∧ Below w.heap.size w w' := by
  have hJ : Eit ((w.alloc (.cells #[.int .i64 ec, .int .i64 et, .int .i64 ex, .int .i64 em, .int .i64 ek, .int .i64 ee] 23)).alloc (.cells #[.bool o, .int .i64 n, .int .i64 r, .int .i64 u, .bool b, .int .i64 c, .int .i64 d, .int .i64 x] 25)) (w.heap.size + 1) ⟨o, n, r, u, b, c, d, x⟩ := by have := Eit.new (w.alloc (.cells #[.int .i64 ec, .int .i64 et, .int .i64 ex, .int .i64 em, .int .i64 ek, .int .i64 ee] 23)) ⟨o, n, r, u, b, c, d, x⟩; simp only [World.size_alloc] at this; exact this
  have hS : Six ((w.alloc (.cells #[.int .i64 ec, .int .i64 et, .int .i64 ex, .int .i64 em, .int .i64 ek, .int .i64 ee] 23)).alloc (.cells #[.bool o, .int .i64 n, .int .i64 r, .int .i64 u, .bool b, .int .i64 c, .int .i64 d, .int .i64 x] 25)) w.heap.size (Sp.at ⟨ec, et, ex, em, ek, ee⟩) := (Six.new w ⟨ec, et, ex, em, ek, ee⟩).later ((Below.refl _ _).alloc (Nat.le_refl _) _)
  have HE : Hid (Below w.heap.size w ((w.alloc (.cells #[.int .i64 ec, .int .i64 et, .int .i64 ex, .int .i64 em, .int .i64 ek, .int .i64 ee] 23)).alloc (.cells #[.bool o, .int .i64 n, .int .i64 r, .int .i64 u, .bool b, .int .i64 c, .int .i64 d, .int .i64 x] 25))) := ((Below.refl _ _).alloc (by simp) _).alloc (by simp) _
  cases hm : maySp ⟨ec, et, ex, em, ek, ee⟩
  · have H : Hid (jmB ⟨ec, et, ex, em, ek, ee⟩ ⟨o, n, r, u, b, c, d, x⟩ = false) := jm_no hm
    have HM : Hid (maySp ⟨ec, et, ex, em, ek, ee⟩ = false) := hm
    clear hm
    go_enter Try.func27, Try.ntmps27
    go_wp2_with fail
    refine (spmay_any ec et ex em ek ee _).mono ?_
    rintro e w1 ⟨rfl, hb1⟩
    rw [HM.out]
    go_wp2
    go_ret
    exact ⟨ret_b H.out.symm, HE.out.trans (hb1.mono HE.out.size)⟩
  have HM : Hid (maySp ⟨ec, et, ex, em, ek, ee⟩ = true) := hm
  have hE := job_eql o n r u b c d x false 0 0 0 false 0 0 0
  obtain ⟨z, hz⟩ : ∃ z, eqJ ⟨o, n, r, u, b, c, d, x⟩ ⟨false, 0, 0, 0, false, 0, 0, 0⟩ = z := ⟨_, rfl⟩
  have hz' : zeB ⟨o, n, r, u, b, c, d, x⟩ = z := (eqJ_z _).symm.trans hz
  rw [hz] at hE
  obtain ⟨q, hq⟩ : ∃ q, isB ⟨ec, et, ex, em, ek, ee⟩ ⟨o, n, r, u, b, c, d, x⟩ = q := ⟨_, rfl⟩
  have HQ : Hid (isB ⟨ec, et, ex, em, ek, ee⟩ ⟨o, n, r, u, b, c, d, x⟩ = q) := hq
  have HR : Hid (jmB ⟨ec, et, ex, em, ek, ee⟩ ⟨o, n, r, u, b, c, d, x⟩ = (z || q)) := by show _ = _; rw [jm_eq _ hm, hz', hq]
  clear hz hz' hq hm
  cases z
  · go_enter Try.func27, Try.ntmps27
    go_wp2_with fail
    refine (spmay_any ec et ex em ek ee _).mono ?_
    rintro e w1 ⟨rfl, hb1⟩
    rw [HM.out]
    obtain ⟨x0, x1, x2, x3, x4, x5, x6, x7, _⟩ := (hJ.later hb1).op
    obtain ⟨y0, y1, y2, y3, y4, y5, _⟩ := (hS.later hb1).sp
    have s1 := (hJ.later hb1).lt
    have hB : Below w.heap.size w w1 := HE.out.trans (hb1.mono HE.out.size)
    clear hJ hS hb1
    go_wp2_with fail
    refine (isOf_any ec et ex em ek ee o n r u b c d x _).mono ?_
    rintro e w2 ⟨rfl, hb2⟩
    rw [HQ.out]
    go_wp2
    go_ret
    exact ⟨ret_b (by rw [HR.out]; rfl), hB.trans (hb2.mono hB.size)⟩
  · go_enter Try.func27, Try.ntmps27
    go_wp2_with fail
    refine (spmay_any ec et ex em ek ee _).mono ?_
    rintro e w1 ⟨rfl, hb1⟩
    rw [HM.out]
    obtain ⟨x0, x1, x2, x3, x4, x5, x6, x7, _⟩ := (hJ.later hb1).op
    obtain ⟨y0, y1, y2, y3, y4, y5, _⟩ := (hS.later hb1).sp
    have s1 := (hJ.later hb1).lt
    have hB : Below w.heap.size w w1 := HE.out.trans (hb1.mono HE.out.size)
    clear hJ hS hb1
    go_wp2
    go_ret
    exact ⟨ret_b (by rw [HR.out]; rfl), hB⟩
end Go.Proofs.Ythbppojglhimnaa
