/- One contract a call, for all arguments: the answer as a number and a bool. And the chapter's examples. -/
import Derived.Test.YtjiockmphbhljaaDoorW2
import Derived.Deep.RegionWith
import Derived.Test.YtjiockmphbhljaaDoorW3
namespace Go.Proofs.YtjiockmphbhljaaDoor
open Go.RowKit

def okB (a b : Int) : Bool := decide (0 ≤ a ∧ a ≤ 4611686018427387904 ∧ 1 ≤ b ∧ b ≤ 4611686018427387904)
def clV (a b : Int) : Int := bif okB a b then cl a b else 0
def cmB (a b c d : Int) : Bool := okB a b && okB c d
def cmV (a b c d : Int) : Int := bif cmB a b c d then sgn (a * d) (c * b) else 0

theorem okB_yes {a b : Int} (h : okq a b) : okB a b = true := by unfold okq at h; unfold okB; exact decide_eq_true h
theorem okB_no {a b : Int} (h : ¬ okq a b) : okB a b = false := by unfold okq at h; unfold okB; exact decide_eq_false h
theorem clV_yes {a b : Int} (h : okq a b) : clV a b = cl a b := by unfold clV; rw [okB_yes h]; rfl
theorem clV_no {a b : Int} (h : ¬ okq a b) : clV a b = 0 := by unfold clV; rw [okB_no h]; rfl
theorem cmB_yes {a b c d : Int} (h : okq a b ∧ okq c d) : cmB a b c d = true := by unfold cmB; rw [okB_yes h.1, okB_yes h.2]; rfl
theorem cmB_no {a b c d : Int} (h : ¬ (okq a b ∧ okq c d)) : cmB a b c d = false := by
  unfold cmB
  by_cases h1 : okq a b
  · rw [okB_no (fun h2 => h ⟨h1, h2⟩)]; simp
  · rw [okB_no h1]; rfl
theorem cmV_yes {a b c d : Int} (h : okq a b ∧ okq c d) : cmV a b c d = sgn (a * d) (c * b) := by unfold cmV; rw [cmB_yes h]; rfl
theorem cmV_no {a b c d : Int} (h : ¬ (okq a b ∧ okq c d)) : cmV a b c d = 0 := by unfold cmV; rw [cmB_no h]; rfl

theorem ceil_any (a b : Int) (w : World) :
    Calls Tryd.prog 33 #[.int .i64 a, .int .i64 b] w fun e w' => e = .returned (.tuple #[.int .i64 (clV a b), .bool (okB a b)]) ∧ Below w.heap.size w w' := by
  by_cases h : okq a b
  · rw [clV_yes h, okB_yes h]; exact ceil_yes a b w h.1 h.2.1 h.2.2.1 h.2.2.2
  · rw [clV_no h, okB_no h]; exact ceil_no a b w h
theorem cmp_any (a b c d : Int) (w : World) :
    Calls Tryd.prog 41 #[.int .i64 a, .int .i64 b, .int .i64 c, .int .i64 d] w fun e w' => e = .returned (.tuple #[.int .i64 (cmV a b c d), .bool (cmB a b c d)]) ∧ Below w.heap.size w w' := by
  by_cases h : okq a b ∧ okq c d
  · rw [cmV_yes h, cmB_yes h]; exact cmp_yes a b c d w h.1.1 h.1.2.1 h.1.2.2.1 h.1.2.2.2 h.2.1 h.2.2.1 h.2.2.2.1 h.2.2.2.2
  · rw [cmV_no h, cmB_no h]; exact cmp_no a b c d w h
end Go.Proofs.YtjiockmphbhljaaDoor
