/- Walks of the document's own answers of chapter 5: May. -/
import Derived.Test.YteibaiflljcghaaDoorE4
namespace Go.Proofs.YteibaiflljcghaaDoor
open Go.RowKit

set_option maxHeartbeats 1000000 in
set_option maxRecDepth 100000 in
theorem refSp_any (c t x m k e : Int) (w : World) :
    Calls Tryd.prog 44 #[.agg #[.int .i64 c, .int .i64 t, .int .i64 x, .int .i64 m, .int .i64 k, .int .i64 e]] w fun r w' => r = .returned (.bool (maySp ⟨c, t, x, m, k, e⟩)) ∧ Below w.heap.size w w' := by
  have E := maySp_eq ⟨c, t, x, m, k, e⟩
  simp only at E
  by_cases c1 : 1 ≤ c
  rotate_left
  · have H : Hid (maySp ⟨c, t, x, m, k, e⟩ = false) := by show _ = _; rw [E]; exact decide_eq_false (by omega)
    clear E
    go_enter Tryd.func44, Tryd.ntmps44
    go_wp2_with fail
    refine (refMay_any m k _).mono ?_
    rintro r w1 ⟨rfl, rfl⟩
    go_wp2
    go_ret
    exact ⟨ret_b H.out.symm, (Below.refl _ _).alloc (by simp) _⟩
  by_cases c2 : c ≤ 6
  rotate_left
  · have H : Hid (maySp ⟨c, t, x, m, k, e⟩ = false) := by show _ = _; rw [E]; exact decide_eq_false (by omega)
    clear E
    go_enter Tryd.func44, Tryd.ntmps44
    go_wp2_with fail
    refine (refMay_any m k _).mono ?_
    rintro r w1 ⟨rfl, rfl⟩
    go_wp2
    go_ret
    exact ⟨ret_b H.out.symm, (Below.refl _ _).alloc (by simp) _⟩
  by_cases c3 : c ≤ t
  rotate_left
  · have H : Hid (maySp ⟨c, t, x, m, k, e⟩ = false) := by show _ = _; rw [E]; exact decide_eq_false (by omega)
    clear E
    go_enter Tryd.func44, Tryd.ntmps44
    go_wp2_with fail
    refine (refMay_any m k _).mono ?_
    rintro r w1 ⟨rfl, rfl⟩
    go_wp2
    go_ret
    exact ⟨ret_b H.out.symm, (Below.refl _ _).alloc (by simp) _⟩
  by_cases c4 : t ≤ x
  rotate_left
  · have H : Hid (maySp ⟨c, t, x, m, k, e⟩ = false) := by show _ = _; rw [E]; exact decide_eq_false (by omega)
    clear E
    go_enter Tryd.func44, Tryd.ntmps44
    go_wp2_with fail
    refine (refMay_any m k _).mono ?_
    rintro r w1 ⟨rfl, rfl⟩
    go_wp2
    go_ret
    exact ⟨ret_b H.out.symm, (Below.refl _ _).alloc (by simp) _⟩
  by_cases c5 : x ≤ 48
  rotate_left
  · have H : Hid (maySp ⟨c, t, x, m, k, e⟩ = false) := by show _ = _; rw [E]; exact decide_eq_false (by omega)
    clear E
    go_enter Tryd.func44, Tryd.ntmps44
    go_wp2_with fail
    refine (refMay_any m k _).mono ?_
    rintro r w1 ⟨rfl, rfl⟩
    go_wp2
    go_ret
    exact ⟨ret_b H.out.symm, (Below.refl _ _).alloc (by simp) _⟩
  cases hW : mayB m k
  · have H : Hid (maySp ⟨c, t, x, m, k, e⟩ = false) := by
      show _ = _; rw [E]; refine decide_eq_false fun h => ?_
      have := decide_eq_true (p := 1 ≤ m ∧ m ≤ k ∧ k ≤ 6) h.2.2.2.2.2.1
      unfold mayB at hW; rw [this] at hW; cases hW
    clear E
    go_enter Tryd.func44, Tryd.ntmps44
    go_wp2_with fail
    refine (refMay_any m k _).mono ?_
    rintro r w1 ⟨rfl, rfl⟩
    go_wp2
    go_ret
    exact ⟨ret_b H.out.symm, (Below.refl _ _).alloc (by simp) _⟩
  have hm := mayB_of hW
  by_cases c7 : 0 ≤ e
  rotate_left
  · have H : Hid (maySp ⟨c, t, x, m, k, e⟩ = false) := by show _ = _; rw [E]; exact decide_eq_false (by omega)
    clear E hm
    go_enter Tryd.func44, Tryd.ntmps44
    go_wp2_with fail
    refine (refMay_any m k _).mono ?_
    rintro r w1 ⟨rfl, rfl⟩
    go_wp2
    go_ret
    exact ⟨ret_b H.out.symm, (Below.refl _ _).alloc (by simp) _⟩
  by_cases c8 : e ≤ 8
  rotate_left
  · have H : Hid (maySp ⟨c, t, x, m, k, e⟩ = false) := by show _ = _; rw [E]; exact decide_eq_false (by omega)
    clear E hm
    go_enter Tryd.func44, Tryd.ntmps44
    go_wp2_with fail
    refine (refMay_any m k _).mono ?_
    rintro r w1 ⟨rfl, rfl⟩
    go_wp2
    go_ret
    exact ⟨ret_b H.out.symm, (Below.refl _ _).alloc (by simp) _⟩
  by_cases c9 : e = 0
  · subst c9
    by_cases c10 : t = x
    · have H : Hid (maySp ⟨c, t, x, m, k, 0⟩ = true) := by show _ = _; rw [E]; exact decide_eq_true (by omega)
      subst c10
      clear E hm
      go_enter Tryd.func44, Tryd.ntmps44
      go_wp2_with fail
      refine (refMay_any m k _).mono ?_
      rintro r w1 ⟨rfl, rfl⟩
      go_wp2
      go_ret
      exact ⟨ret_b H.out.symm, (Below.refl _ _).alloc (by simp) _⟩
    · have H : Hid (maySp ⟨c, t, x, m, k, 0⟩ = false) := by show _ = _; rw [E]; exact decide_eq_false (by omega)
      have c11 : (t == x) = false := by simpa using c10
      clear E hm
      go_enter Tryd.func44, Tryd.ntmps44
      go_wp2_with fail
      refine (refMay_any m k _).mono ?_
      rintro r w1 ⟨rfl, rfl⟩
      go_wp2
      go_ret
      exact ⟨ret_b H.out.symm, (Below.refl _ _).alloc (by simp) _⟩
  · have H : Hid (maySp ⟨c, t, x, m, k, e⟩ = true) := by show _ = _; rw [E]; exact decide_eq_true (by omega)
    have c10 : (e == 0) = false := by simpa using c9
    clear E hm
    go_enter Tryd.func44, Tryd.ntmps44
    go_wp2_with fail
    refine (refMay_any m k _).mono ?_
    rintro r w1 ⟨rfl, rfl⟩
    go_wp2
    go_ret
    exact ⟨ret_b H.out.symm, (Below.refl _ _).alloc (by simp) _⟩
end Go.Proofs.YteibaiflljcghaaDoor
