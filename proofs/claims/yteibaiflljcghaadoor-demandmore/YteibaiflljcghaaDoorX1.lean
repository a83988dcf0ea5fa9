/- Sums over the first numbers, and the least force by which springs have no more than a load: plain arithmetic. -/
import Derived.Test.YteibaiflljcghaaDoorW1
namespace Go.Proofs.YteibaiflljcghaaDoor

/-- g of the first n numbers, together. -/
def sm : Nat → (Nat → Int) → Int
  | 0, _ => 0
  | n + 1, g => sm n g + g n
theorem sm_congr {n : Nat} {f g : Nat → Int} (h : ∀ i, i < n → f i = g i) : sm n f = sm n g := by
  induction n with
  | zero => rfl
  | succ n ih => show sm n f + f n = sm n g + g n; rw [ih (fun i hi => h i (by omega)), h n (by omega)]
theorem sm_le {n : Nat} {f g : Nat → Int} (h : ∀ i, i < n → f i ≤ g i) : sm n f ≤ sm n g := by
  induction n with
  | zero => exact Int.le_refl _
  | succ n ih => have := ih (fun i hi => h i (by omega)); have := h n (by omega); show sm n f + f n ≤ sm n g + g n; omega
theorem sm_add (n : Nat) (f g : Nat → Int) : sm n (fun i => f i + g i) = sm n f + sm n g := by
  induction n with
  | zero => rfl
  | succ n ih => show sm n (fun i => f i + g i) + (f n + g n) = (sm n f + f n) + (sm n g + g n); rw [ih]; omega
theorem sm_mul (n : Nat) (k : Int) (f : Nat → Int) : sm n (fun i => k * f i) = k * sm n f := by
  induction n with
  | zero => show (0 : Int) = k * 0; omega
  | succ n ih => show sm n (fun i => k * f i) + k * f n = k * (sm n f + f n); rw [ih, Int.mul_add]
theorem sm_zero (n : Nat) : sm n (fun _ => 0) = 0 := by
  induction n with
  | zero => rfl
  | succ n ih => show sm n (fun _ => 0) + 0 = 0; rw [ih]; rfl
theorem sm_const (n : Nat) (k : Int) : sm n (fun _ => k) = n * k := by
  induction n with
  | zero => show (0 : Int) = (0 : Nat) * k; simp
  | succ n ih => show sm n (fun _ => k) + k = _; rw [ih, Int.natCast_add, Int.add_mul]; simp
/-- One of them is other. -/
theorem sm_turn {n : Nat} {f g : Nat → Int} {x : Nat} (hx : x < n) (h : ∀ i, i < n → i ≠ x → f i = g i) : sm n f = sm n g + (f x - g x) := by
  induction n with
  | zero => omega
  | succ n ih =>
    show sm n f + f n = sm n g + g n + (f x - g x)
    by_cases hxn : x = n
    · subst hxn
      rw [sm_congr (fun i hi => h i (by omega) (by omega))]; omega
    · rw [ih (by omega) (fun i hi => h i (by omega)), h n (by omega) (Ne.symm hxn)]; omega
theorem sm_front (n : Nat) (g : Nat → Int) : sm (n + 1) g = g 0 + sm n (fun i => g (i + 1)) := by
  induction n with
  | zero => show 0 + g 0 = g 0 + 0; omega
  | succ n ih => show sm (n + 1) g + g (n + 1) = g 0 + (sm n (fun i => g (i + 1)) + g (n + 1)); rw [ih]; omega
section
variable (n : Nat) (U L E : Nat → Int)
variable {n U L E}
end
end Go.Proofs.YteibaiflljcghaaDoor
