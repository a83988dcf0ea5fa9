/- OptionOrder: of any two one is ahead, or they are the same; what is ahead of what is ahead is ahead. -/
import Derived.Test.YtkaobjcghmigmaaN20
namespace Go.Proofs.Ytkaobjcghmigmaa
open Go.RowKit

set_option maxHeartbeats 4000000 in
set_option maxRecDepth 100000 in
theorem law_oorder (a0 a1 a2 b0 b1 b2 c0 c1 c2 : Int) (w : World) :
    Calls Try.prog 4 #[.agg #[.int .i64 a0, .int .i64 a1, .int .i64 a2], .agg #[.int .i64 b0, .int .i64 b1, .int .i64 b2], .agg #[.int .i64 c0, .int .i64 c1, .int .i64 c2]] w fun e w' => e = .returned (.bool true) ∧ Below w.heap.size w w' := by
  have h1 : Thr (((w.alloc (.cells #[.int .i64 a0, .int .i64 a1, .int .i64 a2] 24)).alloc (.cells #[.int .i64 b0, .int .i64 b1, .int .i64 b2] 24)).alloc (.cells #[.int .i64 c0, .int .i64 c1, .int .i64 c2] 24)) w.heap.size a0 a1 a2 := (Thr.new w a0 a1 a2 24).later (below_a2 _ _ _)
  have h2 : Thr (((w.alloc (.cells #[.int .i64 a0, .int .i64 a1, .int .i64 a2] 24)).alloc (.cells #[.int .i64 b0, .int .i64 b1, .int .i64 b2] 24)).alloc (.cells #[.int .i64 c0, .int .i64 c1, .int .i64 c2] 24)) (w.heap.size + 1) b0 b1 b2 := by have := (Thr.new (w.alloc (.cells #[.int .i64 a0, .int .i64 a1, .int .i64 a2] 24)) b0 b1 b2 24).later (below_a1 _ (.cells #[.int .i64 c0, .int .i64 c1, .int .i64 c2] 24)); simp only [World.size_alloc] at this; exact this
  have h3 : Thr (((w.alloc (.cells #[.int .i64 a0, .int .i64 a1, .int .i64 a2] 24)).alloc (.cells #[.int .i64 b0, .int .i64 b1, .int .i64 b2] 24)).alloc (.cells #[.int .i64 c0, .int .i64 c1, .int .i64 c2] 24)) (w.heap.size + 2) c0 c1 c2 := by have := Thr.new ((w.alloc (.cells #[.int .i64 a0, .int .i64 a1, .int .i64 a2] 24)).alloc (.cells #[.int .i64 b0, .int .i64 b1, .int .i64 b2] 24)) c0 c1 c2 24; simp only [World.size_alloc] at this; exact this
  have HE : Hid (Below w.heap.size w (((w.alloc (.cells #[.int .i64 a0, .int .i64 a1, .int .i64 a2] 24)).alloc (.cells #[.int .i64 b0, .int .i64 b1, .int .i64 b2] 24)).alloc (.cells #[.int .i64 c0, .int .i64 c1, .int .i64 c2] 24))) := below_a3 _ _ _ _
  have hE := fun w => op_eql a0 a1 a2 b0 b1 b2 w
  have hN := fun w => op_neq a0 a1 a2 b0 b1 b2 w
  go_enter Try.func4, Try.ntmps4
  go_wp2_with fail
  generalize (((w.alloc (.cells #[.int .i64 a0, .int .i64 a1, .int .i64 a2] 24)).alloc (.cells #[.int .i64 b0, .int .i64 b1, .int .i64 b2] 24)).alloc (.cells #[.int .i64 c0, .int .i64 c1, .int .i64 c2] 24)) = W at *
  have HA : Hid (Thr W w.heap.size a0 a1 a2 ∧ Thr W (w.heap.size + 1) b0 b1 b2 ∧ Thr W (w.heap.size + 2) c0 c1 c2) := ⟨h1, h2, h3⟩
  clear h1 h2 h3
  refine (awake14_any _).mono ?_
  rintro e w1 ⟨rfl, hb1⟩
  have HB1 : Hid (Below W.heap.size W w1) := hb1
  clear hb1
  obtain ⟨x0, x1, x2⟩ := HA.out.1.later (HB1.out)
  obtain ⟨y0, y1, y2⟩ := HA.out.2.1.later (HB1.out)
  obtain ⟨z0, z1, z2⟩ := HA.out.2.2.later (HB1.out)
  cases hx : ltO (a0, a1, a2) (b0, b1, b2) with
  | true =>
    have HX : Hid (ltO (a0, a1, a2) (b0, b1, b2) = true) := hx
    have HY : Hid (ltO (b0, b1, b2) (a0, a1, a2) = false) := ltO_asymm hx
    have hq : eqO (a0, a1, a2) (b0, b1, b2) = false := by
      cases h : eqO (a0, a1, a2) (b0, b1, b2) with
      | false => rfl
      | true => rw [eqO_iff.1 h, swo_ltO.irrefl] at hx; cases hx
    rw [hq] at hE hN
    clear hx hq
    go_wp2_with fail
    refine (less14_any a0 a1 a2 b0 b1 b2 _).mono ?_
    rintro e w2 ⟨rfl, hb⟩
    rw [HX.out]
    have HBw2 : Hid (Below W.heap.size W w2) := HB1.out.trans (hb.mono HB1.out.size)
    clear hb x0 x1 x2 y0 y1 y2 z0 z1 z2
    obtain ⟨x0, x1, x2⟩ := HA.out.1.later (HBw2.out)
    obtain ⟨y0, y1, y2⟩ := HA.out.2.1.later (HBw2.out)
    obtain ⟨z0, z1, z2⟩ := HA.out.2.2.later (HBw2.out)
    go_wp2_with fail
    refine (less14_any b0 b1 b2 a0 a1 a2 _).mono ?_
    rintro e w3 ⟨rfl, hb⟩
    rw [HY.out]
    have HBw3 : Hid (Below W.heap.size W w3) := HBw2.out.trans (hb.mono HBw2.out.size)
    clear hb x0 x1 x2 y0 y1 y2 z0 z1 z2
    obtain ⟨x0, x1, x2⟩ := HA.out.1.later (HBw3.out)
    obtain ⟨y0, y1, y2⟩ := HA.out.2.1.later (HBw3.out)
    obtain ⟨z0, z1, z2⟩ := HA.out.2.2.later (HBw3.out)
    cases hp : ltO (b0, b1, b2) (c0, c1, c2) with
    | false =>
      have HP : Hid (ltO (b0, b1, b2) (c0, c1, c2) = false) := hp
      clear hp
      go_wp2_with fail
      refine (less14_any b0 b1 b2 c0 c1 c2 _).mono ?_
      rintro e w4 ⟨rfl, hb⟩
      rw [HP.out]
      have HBw4 : Hid (Below W.heap.size W w4) := HBw3.out.trans (hb.mono HBw3.out.size)
      clear hb x0 x1 x2 y0 y1 y2 z0 z1 z2
      obtain ⟨x0, x1, x2⟩ := HA.out.1.later (HBw4.out)
      obtain ⟨y0, y1, y2⟩ := HA.out.2.1.later (HBw4.out)
      obtain ⟨z0, z1, z2⟩ := HA.out.2.2.later (HBw4.out)
      go_wp2
      go_ret
      exact ⟨rfl, HE.out.trans (HBw4.out.mono HE.out.size)⟩
    | true =>
      have HP : Hid (ltO (b0, b1, b2) (c0, c1, c2) = true) := hp
      have HR : Hid (ltO (a0, a1, a2) (c0, c1, c2) = true) := ltO_trans HX.out hp
      clear hp
      go_wp2_with fail
      refine (less14_any b0 b1 b2 c0 c1 c2 _).mono ?_
      rintro e w4 ⟨rfl, hb⟩
      rw [HP.out]
      have HBw4 : Hid (Below W.heap.size W w4) := HBw3.out.trans (hb.mono HBw3.out.size)
      clear hb x0 x1 x2 y0 y1 y2 z0 z1 z2
      obtain ⟨x0, x1, x2⟩ := HA.out.1.later (HBw4.out)
      obtain ⟨y0, y1, y2⟩ := HA.out.2.1.later (HBw4.out)
      obtain ⟨z0, z1, z2⟩ := HA.out.2.2.later (HBw4.out)
      go_wp2_with fail
      refine (less14_any a0 a1 a2 c0 c1 c2 _).mono ?_
      rintro e w5 ⟨rfl, hb⟩
      rw [HR.out]
      have HBw5 : Hid (Below W.heap.size W w5) := HBw4.out.trans (hb.mono HBw4.out.size)
      clear hb x0 x1 x2 y0 y1 y2 z0 z1 z2
      obtain ⟨x0, x1, x2⟩ := HA.out.1.later (HBw5.out)
      obtain ⟨y0, y1, y2⟩ := HA.out.2.1.later (HBw5.out)
      obtain ⟨z0, z1, z2⟩ := HA.out.2.2.later (HBw5.out)
      go_wp2
      go_ret
      exact ⟨rfl, HE.out.trans (HBw5.out.mono HE.out.size)⟩
  | false =>
    have HX : Hid (ltO (a0, a1, a2) (b0, b1, b2) = false) := hx
    cases hy : ltO (b0, b1, b2) (a0, a1, a2) with
    | true =>
      have HY : Hid (ltO (b0, b1, b2) (a0, a1, a2) = true) := hy
      have hq : eqO (a0, a1, a2) (b0, b1, b2) = false := by
        cases h : eqO (a0, a1, a2) (b0, b1, b2) with
        | false => rfl
        | true => rw [eqO_iff.1 h, swo_ltO.irrefl] at hy; cases hy
      rw [hq] at hE hN
      clear hx hy hq
      go_wp2_with fail
      refine (less14_any a0 a1 a2 b0 b1 b2 _).mono ?_
      rintro e w2 ⟨rfl, hb⟩
      rw [HX.out]
      have HBw2 : Hid (Below W.heap.size W w2) := HB1.out.trans (hb.mono HB1.out.size)
      clear hb x0 x1 x2 y0 y1 y2 z0 z1 z2
      obtain ⟨x0, x1, x2⟩ := HA.out.1.later (HBw2.out)
      obtain ⟨y0, y1, y2⟩ := HA.out.2.1.later (HBw2.out)
      obtain ⟨z0, z1, z2⟩ := HA.out.2.2.later (HBw2.out)
      go_wp2_with fail
      refine (less14_any b0 b1 b2 a0 a1 a2 _).mono ?_
      rintro e w3 ⟨rfl, hb⟩
      rw [HY.out]
      have HBw3 : Hid (Below W.heap.size W w3) := HBw2.out.trans (hb.mono HBw2.out.size)
      clear hb x0 x1 x2 y0 y1 y2 z0 z1 z2
      obtain ⟨x0, x1, x2⟩ := HA.out.1.later (HBw3.out)
      obtain ⟨y0, y1, y2⟩ := HA.out.2.1.later (HBw3.out)
      obtain ⟨z0, z1, z2⟩ := HA.out.2.2.later (HBw3.out)
      go_wp2
      go_ret
      exact ⟨rfl, HE.out.trans (HBw3.out.mono HE.out.size)⟩
    | false =>
      have HY : Hid (ltO (b0, b1, b2) (a0, a1, a2) = false) := hy
      have hq : eqO (a0, a1, a2) (b0, b1, b2) = true := by rw [ltO_same hx hy]; exact eqO_self _
      rw [hq] at hE hN
      clear hx hy hq
      go_wp2_with fail
      refine (less14_any a0 a1 a2 b0 b1 b2 _).mono ?_
      rintro e w2 ⟨rfl, hb⟩
      rw [HX.out]
      have HBw2 : Hid (Below W.heap.size W w2) := HB1.out.trans (hb.mono HB1.out.size)
      clear hb x0 x1 x2 y0 y1 y2 z0 z1 z2
      obtain ⟨x0, x1, x2⟩ := HA.out.1.later (HBw2.out)
      obtain ⟨y0, y1, y2⟩ := HA.out.2.1.later (HBw2.out)
      obtain ⟨z0, z1, z2⟩ := HA.out.2.2.later (HBw2.out)
      go_wp2_with fail
      refine (less14_any b0 b1 b2 a0 a1 a2 _).mono ?_
      rintro e w3 ⟨rfl, hb⟩
      rw [HY.out]
      have HBw3 : Hid (Below W.heap.size W w3) := HBw2.out.trans (hb.mono HBw2.out.size)
      clear hb x0 x1 x2 y0 y1 y2 z0 z1 z2
      obtain ⟨x0, x1, x2⟩ := HA.out.1.later (HBw3.out)
      obtain ⟨y0, y1, y2⟩ := HA.out.2.1.later (HBw3.out)
      obtain ⟨z0, z1, z2⟩ := HA.out.2.2.later (HBw3.out)
      go_wp2
      go_ret
      exact ⟨rfl, HE.out.trans (HBw3.out.mono HE.out.size)⟩
end Go.Proofs.Ytkaobjcghmigmaa
