/- Walks of package demand: First, Test. -/
import Derived.Test.YteibaiflljcghaaDoorD6
import Derived.WalkMore
import Derived.ScopeJumps
namespace Go.Proofs.YteibaiflljcghaaDoor
open Go.RowKit Go.Shelf

/-- What is known of those from z on. -/
def DwF (g : Int → Int) (h z r : Int) : Prop := (r = 0 ∧ ∀ i, z ≤ i → 1 ≤ i → i < h → g i ≤ i) ∨ (1 ≤ r ∧ z ≤ r ∧ r < h ∧ r < g r ∧ ∀ i, z ≤ i → 1 ≤ i → i < r → g i ≤ i)
theorem DwF.start (g : Int → Int) (h : Int) : DwF g h h 0 := .inl ⟨rfl, fun i _ _ _ => by omega⟩
theorem DwF.stop {g : Int → Int} {h z r : Int} (hd : DwF g h z r) (hz : z ≤ 1) : IsFst g h r := by
  rcases hd with ⟨rfl, h1⟩ | ⟨r0, r1, r2, r3, r4⟩
  · exact .inl ⟨rfl, fun i i0 i1 => h1 i (by omega) i0 i1⟩
  · exact .inr ⟨r0, r2, r3, fun i i0 i1 => r4 i (by omega) i0 i1⟩
theorem DwF.yes {g : Int → Int} {h z : Int} (hz : 2 ≤ z) (hh : z ≤ h) (hg : z - 1 < g (z - 1)) : DwF g h (z - 1) (z - 1) :=
  .inr ⟨by omega, by omega, by omega, hg, fun i i0 _ i1 => by omega⟩
theorem DwF.no {g : Int → Int} {h z r : Int} (hd : DwF g h z r) (hg : g (z - 1) ≤ z - 1) : DwF g h (z - 1) r := by
  rcases hd with ⟨rfl, h1⟩ | ⟨r0, r1, r2, r3, r4⟩
  · refine .inl ⟨rfl, fun i i0 i1 i2 => ?_⟩
    by_cases c : i = z - 1
    · subst c; exact hg
    · exact h1 i (by omega) i1 i2
  · refine .inr ⟨r0, by omega, r2, r3, fun i i0 i1 i2 => ?_⟩
    by_cases c : i = z - 1
    · subst c; exact hg
    · exact r4 i (by omega) i1 i2

set_option maxHeartbeats 4000000 in
set_option maxRecDepth 1000000 in
theorem first9_any (l : Nat) (f : Nat → Fx) (v : Value) (w : World) (h : Fxs w v l f) (hL : Lim w) :
    Calls Tryd.prog 19 #[v] w fun r w' => r = .returned (.int .i64 (first9 l f)) ∧ Below w.heap.size w w' := by
  have HF : Hid (Fxs w v l f) := h
  obtain ⟨g0, g1⟩ := hor9_nonneg l f
  obtain ⟨h9, hh⟩ : ∃ h9, hor9 l f = h9 := ⟨_, rfl⟩
  have HH : Hid (hor9 l f = h9) := hh
  rw [hh] at g0 g1
  clear hh
  have HHor := hor9_any l f v w h hL
  clear h hL
  go_enter Tryd.func19, Tryd.ntmps19
  go_wp2_with fail
  refine wp_scope_jumps 0 (fun a' w' => ∃ (z r : Int) (u5 u6 u7 u8 u9 u10 u11 u12 u13 u14 u15 u16 u17 : Value), a' = { tmps := #[v, undef, .int .i64 0, .int .i64 r, .int .i64 z, u5, u6, u7, u8, u9, u10, u11, u12, u13, u14, u15, u16, u17], defers := [] } ∧ 0 ≤ z ∧ z ≤ h9 ∧ 0 ≤ r ∧ r ≤ 384 ∧ Hid (DwF (allV9 l f) h9 z r) ∧ Below w.heap.size w w') (fun a' _ => (intOf (a'.tmps.getD 4 undef)).toNat) rfl ?_ ?_
  · go_wp2_with fail
    refine HHor.mono ?_
    rintro r9 w1 ⟨rfl, hb1⟩
    rw [HH.out]
    clear HHor
    have HD : Hid (DwF (allV9 l f) h9 h9 0) := DwF.start _ _
    go_wp2_with fail
    go_step3
    by_cases c1 : h9 - 1 < 1
    · have HR : Hid (first9 l f = 0) := first9_eq (by rw [HH.out]; exact DwF.stop HD.out (by omega))
      go_wp2_with fail
      simp only [Exit.jump]
      go_ret
      exact ⟨ret_i HR.out.symm, hb1⟩
    · go_wp2_with fail
      refine (all9_any l f (h9 - 1) v _ (HF.out.later hb1)).mono ?_
      rintro r9 w5 ⟨rfl, hb5⟩
      replace hb5 : Below w.heap.size w w5 := hb1.trans (hb5.mono hb1.size)
      obtain ⟨y, hy⟩ : ∃ y, allV9 l f (h9 - 1) = y := ⟨_, rfl⟩
      have HY : Hid (allV9 l f (h9 - 1) = y) := hy
      rw [hy]
      clear hy
      by_cases c2 : y > h9 - 1
      · have HD2 : Hid (DwF (allV9 l f) h9 (h9 - 1) (h9 - 1)) := DwF.yes (by omega) (by omega) (by rw [HY.out]; exact c2)
        go_wp2_with fail
        go_step3
        exact ⟨rfl, ⟨h9 - 1, h9 - 1, _, _, _, _, _, _, _, _, _, _, _, _, _, rfl, by omega, by omega, by omega, by omega, HD2.out, hb5⟩⟩
      · have HD2 : Hid (DwF (allV9 l f) h9 (h9 - 1) 0) := DwF.no HD.out (by rw [HY.out]; omega)
        go_wp2_with fail
        go_step3
        exact ⟨rfl, ⟨h9 - 1, 0, _, _, _, _, _, _, _, _, _, _, _, _, _, rfl, by omega, by omega, by omega, by omega, HD2.out, hb5⟩⟩
  · clear HHor
    rintro a' w1 ⟨z, r, u5, u6, u7, u8, u9, u10, u11, u12, u13, u14, u15, u16, u17, rfl, z0, z1, r0, r1, HD, hb1⟩
    by_cases c1 : z - 1 < 1
    · have HR : Hid (first9 l f = r) := first9_eq (by rw [HH.out]; exact DwF.stop HD.out (by omega))
      go_wp2_with fail
      simp only [Exit.jump]
      go_ret
      exact ⟨ret_i HR.out.symm, hb1⟩
    · go_wp2_with fail
      refine (all9_any l f (z - 1) v _ (HF.out.later hb1)).mono ?_
      rintro r9 w5 ⟨rfl, hb5⟩
      replace hb5 : Below w.heap.size w w5 := hb1.trans (hb5.mono hb1.size)
      obtain ⟨y, hy⟩ : ∃ y, allV9 l f (z - 1) = y := ⟨_, rfl⟩
      have HY : Hid (allV9 l f (z - 1) = y) := hy
      rw [hy]
      clear hy
      by_cases c2 : y > z - 1
      · have HD2 : Hid (DwF (allV9 l f) h9 (z - 1) (z - 1)) := DwF.yes (by omega) (by omega) (by rw [HY.out]; exact c2)
        go_wp2_with fail
        go_step3
        refine ⟨rfl, ⟨z - 1, z - 1, _, _, _, _, _, _, _, _, _, _, _, _, _, rfl, by omega, by omega, by omega, by omega, HD2.out, hb5⟩, ?_⟩
        simp [intOf]; omega
      · have HD2 : Hid (DwF (allV9 l f) h9 (z - 1) r) := DwF.no HD.out (by rw [HY.out]; omega)
        go_wp2_with fail
        go_step3
        refine ⟨rfl, ⟨z - 1, r, _, _, _, _, _, _, _, _, _, _, _, _, _, rfl, by omega, by omega, by omega, by omega, HD2.out, hb5⟩, ?_⟩
        simp [intOf]; omega

set_option maxHeartbeats 2000000 in
set_option maxRecDepth 100000 in
theorem test9_any (l : Nat) (f : Nat → Fx) (v : Value) (w : World) (h : Fxs w v l f) (hL : Lim w) :
    Calls Tryd.prog 21 #[v] w fun r w' => r = .returned (.bool (tst9 l f)) ∧ Below w.heap.size w w' := by
  cases hm : may9 l f with
  | false =>
    have HM : Hid (may9 l f = false) := hm
    have H : Hid (tst9 l f = false) := by show _ = _; unfold tst9; rw [hm]; rfl
    clear hm
    go_enter Tryd.func21, Tryd.ntmps21
    go_wp2_with fail
    refine (may9_any l f v _ h hL).mono ?_
    rintro r w1 ⟨rfl, hb1⟩
    rw [HM.out]
    go_wp2_with fail
    go_ret
    exact ⟨ret_b H.out.symm, hb1⟩
  | true =>
    have HM : Hid (may9 l f = true) := hm
    have H : Hid (tst9 l f = decide (first9 l f = 0)) := by show _ = _; unfold tst9; rw [hm]; rfl
    clear hm
    go_enter Tryd.func21, Tryd.ntmps21
    go_wp2_with fail
    refine (may9_any l f v _ h hL).mono ?_
    rintro r w1 ⟨rfl, hb1⟩
    rw [HM.out]
    go_wp2_with fail
    refine (first9_any l f v _ (h.later hb1) (hL.later hb1)).mono ?_
    rintro r w2 ⟨rfl, hb2⟩
    go_wp2_with fail
    go_ret
    exact ⟨ret_b (by rw [H.out]; first | rfl | simp), hb1.trans (hb2.mono hb1.size)⟩
end Go.Proofs.YteibaiflljcghaaDoor
