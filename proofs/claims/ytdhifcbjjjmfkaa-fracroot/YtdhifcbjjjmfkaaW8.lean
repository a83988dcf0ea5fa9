/- One contract a call, for all arguments: the answer as a number and a bool. And the chapter's examples. -/
import Derived.Test.YtdhifcbjjjmfkaaW5
import Derived.Test.YtdhifcbjjjmfkaaW7
namespace Go.Proofs.Ytdhifcbjjjmfkaa
open Go.RowKit

def okB (a b : Int) : Bool := decide (0 ≤ a ∧ a ≤ 4611686018427387904 ∧ 1 ≤ b ∧ b ≤ 4611686018427387904)
def flV (a b : Int) : Int := bif okB a b then a / b else 0
def clV (a b : Int) : Int := bif okB a b then cl a b else 0
def cmB (a b c d : Int) : Bool := okB a b && okB c d
def cmV (a b c d : Int) : Int := bif cmB a b c d then sgn (a * d) (c * b) else 0

theorem okB_yes {a b : Int} (h : okq a b) : okB a b = true := by unfold okq at h; unfold okB; exact decide_eq_true h
theorem okB_no {a b : Int} (h : ¬ okq a b) : okB a b = false := by unfold okq at h; unfold okB; exact decide_eq_false h
theorem okq_of {a b : Int} (h : okB a b = true) : okq a b := by unfold okB at h; unfold okq; exact of_decide_eq_true h
theorem flV_yes {a b : Int} (h : okq a b) : flV a b = a / b := by unfold flV; rw [okB_yes h]; rfl
theorem flV_no {a b : Int} (h : ¬ okq a b) : flV a b = 0 := by unfold flV; rw [okB_no h]; rfl
theorem clV_yes {a b : Int} (h : okq a b) : clV a b = cl a b := by unfold clV; rw [okB_yes h]; rfl
theorem clV_no {a b : Int} (h : ¬ okq a b) : clV a b = 0 := by unfold clV; rw [okB_no h]; rfl
theorem cmB_yes {a b c d : Int} (h : okq a b ∧ okq c d) : cmB a b c d = true := by unfold cmB; rw [okB_yes h.1, okB_yes h.2]; rfl
theorem cmB_no {a b c d : Int} (h : ¬ (okq a b ∧ okq c d)) : cmB a b c d = false := by
  unfold cmB
  by_cases h1 : okq a b
  · rw [okB_no (fun h2 => h ⟨h1, h2⟩)]; simp
  · rw [okB_no h1]; rfl
theorem cmV_yes {a b c d : Int} (h : okq a b ∧ okq c d) : cmV a b c d = sgn (a * d) (c * b) := by unfold cmV; rw [cmB_yes h]; rfl
theorem cmV_no {a b c d : Int} (h : ¬ (okq a b ∧ okq c d)) : cmV a b c d = 0 := by unfold cmV; rw [cmB_no h]; rfl

theorem floor_any (a b : Int) (w : World) :
    Calls Try.prog 12 #[.int .i64 a, .int .i64 b] w fun e w' => e = .returned (.tuple #[.int .i64 (flV a b), .bool (okB a b)]) ∧ Below w.heap.size w w' := by
  by_cases h : okq a b
  · rw [flV_yes h, okB_yes h]; exact floor_yes a b w h.1 h.2.1 h.2.2.1 h.2.2.2
  · rw [flV_no h, okB_no h]; exact floor_no a b w h
theorem ceil_any (a b : Int) (w : World) :
    Calls Try.prog 14 #[.int .i64 a, .int .i64 b] w fun e w' => e = .returned (.tuple #[.int .i64 (clV a b), .bool (okB a b)]) ∧ Below w.heap.size w w' := by
  by_cases h : okq a b
  · rw [clV_yes h, okB_yes h]; exact ceil_yes a b w h.1 h.2.1 h.2.2.1 h.2.2.2
  · rw [clV_no h, okB_no h]; exact ceil_no a b w h
theorem cmp_any (a b c d : Int) (w : World) :
    Calls Try.prog 16 #[.int .i64 a, .int .i64 b, .int .i64 c, .int .i64 d] w fun e w' => e = .returned (.tuple #[.int .i64 (cmV a b c d), .bool (cmB a b c d)]) ∧ Below w.heap.size w w' := by
  by_cases h : okq a b ∧ okq c d
  · rw [cmV_yes h, cmB_yes h]; exact cmp_yes a b c d w h.1.1 h.1.2.1 h.1.2.2.1 h.1.2.2.2 h.2.1 h.2.2.1 h.2.2.2.1 h.2.2.2.2
  · rw [cmV_no h, cmB_no h]; exact cmp_no a b c d w h
theorem refFloor_any (a b : Int) (w : World) :
    Calls Try.prog 13 #[.int .i64 a, .int .i64 b] w fun e w' => e = .returned (.tuple #[.int .i64 (flV a b), .bool (okB a b)]) ∧ w' = w := by
  by_cases h : okq a b
  · rw [flV_yes h, okB_yes h]; exact refFloor_yes a b w h.1 h.2.1 h.2.2.1 h.2.2.2
  · rw [flV_no h, okB_no h]; exact refFloor_no a b w h
theorem refCeil_any (a b : Int) (w : World) :
    Calls Try.prog 15 #[.int .i64 a, .int .i64 b] w fun e w' => e = .returned (.tuple #[.int .i64 (clV a b), .bool (okB a b)]) ∧ w' = w := by
  by_cases h : okq a b
  · rw [clV_yes h, okB_yes h]; exact refCeil_yes a b w h.1 h.2.1 h.2.2.1 h.2.2.2
  · rw [clV_no h, okB_no h]; exact refCeil_no a b w h
theorem refCmp_any (a b c d : Int) (w : World) :
    Calls Try.prog 17 #[.int .i64 a, .int .i64 b, .int .i64 c, .int .i64 d] w fun e w' => e = .returned (.tuple #[.int .i64 (cmV a b c d), .bool (cmB a b c d)]) ∧ w' = w := by
  by_cases h : okq a b ∧ okq c d
  · rw [cmV_yes h, cmB_yes h]; exact refCmp_yes a b c d w h.1.1 h.1.2.1 h.1.2.2.1 h.1.2.2.2 h.2.1 h.2.2.1 h.2.2.2.1 h.2.2.2.2
  · rw [cmV_no h, cmB_no h]; exact refCmp_no a b c d w h

set_option maxHeartbeats 1000000 in
set_option maxRecDepth 100000 in
theorem awake_any (w : World) :
    Calls Try.prog 11 #[] w fun e w' => e = .returned (.bool true) ∧ Below w.heap.size w w' := by
  have B1 : Hid (bt 5 2 2 = true) := by show _ = _; unfold bt; decide
  have B2 : Hid (bt 4 2 2 = false) := by show _ = _; unfold bt; decide
  have C1 : Hid (cl 7 2 = 4) := by show _ = _; unfold cl; decide
  go_enter Try.func11, Try.ntmps11
  go_wp2_with fail
  refine (floor_yes 7 2 _ (by omega) (by omega) (by omega) (by omega)).mono ?_
  rintro e w1 ⟨rfl, hb1⟩
  go_wp2_with fail
  refine (ceil_yes 7 2 _ (by omega) (by omega) (by omega) (by omega)).mono ?_
  rintro e w2 ⟨rfl, hb2⟩
  rw [C1.out]
  go_wp2_with fail
  refine (beats_any 5 2 2 _).mono ?_
  rintro e w3 ⟨rfl, hb3⟩
  rw [B1.out]
  go_wp2_with fail
  refine (beats_any 4 2 2 _).mono ?_
  rintro e w4 ⟨rfl, hb4⟩
  rw [B2.out]
  go_wp2
  go_ret
  have s1 := hb1.size
  have s2 := hb2.size
  have s3 := hb3.size
  exact ⟨rfl, hb1.trans ((hb2.mono (by omega)).trans ((hb3.mono (by omega)).trans (hb4.mono (by omega))))⟩
end Go.Proofs.Ytdhifcbjjjmfkaa
