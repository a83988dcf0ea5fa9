/- What follows of the least force: plain arithmetic. -/
import Derived.Test.YtjiockmphbhljaaDoorX8
namespace Go.Proofs.YtjiockmphbhljaaDoor

/-- What each has, rounded down. -/
def hv (u m e : Nat → Int) (a b : Int) (i : Nat) : Int := hasV (u i) (m i) (e i) a b

section
variable {n : Nat} {u m e : Nat → Int} {a b load : Int}

theorem hv_floor (b1 : 1 ≤ b) {i : Nat} : b * hv u m e a b i ≤ hav u (lo7 u m e) e a b i ∧ hav u (lo7 u m e) e a b i + 1 ≤ b * hv u m e a b i + b := by
  unfold hv hasV hav
  show b * max (u i - cl (a * e i) b) (lo7 u m e i) ≤ _ ∧ _ ≤ b * max (u i - cl (a * e i) b) (lo7 u m e i) + b
  have h1 := cl_ge (a := a * e i) b1
  have h2 := cl_lt (a := a * e i) b1
  generalize cl (a * e i) b = q at *
  generalize lo7 u m e i = l at *
  generalize u i = x at *
  generalize a * e i = y at *
  have e1 : b * (x - q) = b * x - q * b := by rw [Int.mul_sub, Int.mul_comm b q]
  have e2 : (q - 1) * b = q * b - b := by rw [Int.sub_mul]; omega
  rw [e2] at h2
  by_cases c : x - q ≤ l
  · rw [Int.max_eq_right c]
    have := Int.mul_le_mul_of_nonneg_left c (show 0 ≤ b by omega)
    omega
  · rw [Int.max_eq_left (show l ≤ x - q by omega)]
    have := Int.mul_le_mul_of_nonneg_left (show l ≤ x - q by omega) (show 0 ≤ b by omega)
    omega
theorem hv_lo {i : Nat} : lo7 u m e i ≤ hv u m e a b i := by
  unfold hv hasV
  show lo7 u m e i ≤ max _ (lo7 u m e i)
  omega
theorem hv_up (h : fitS n u m e) (a0 : 0 ≤ a) (b1 : 1 ≤ b) {i : Nat} (hi : i < n) : hv u m e a b i ≤ u i := by
  have h1 := cl_ge (a := a * e i) b1
  have h2 : 0 ≤ cl (a * e i) b := le_cl_of b1 (by rw [Int.zero_sub, Int.neg_one_mul]; have := Int.mul_nonneg a0 (h.sp.e0 i hi); omega)
  have := h.sp.top i hi
  unfold hv hasV
  show max _ (lo7 u m e i) ≤ u i
  omega
theorem hv_stiff {i : Nat} (hi : e i = 0) (b1 : 1 ≤ b) : hv u m e a b i = u i := by
  have h1 : cl (a * e i) b = 0 := by
    rw [hi, Int.mul_zero]
    refine Int.le_antisymm (cl_le_of b1 (by omega)) (le_cl_of b1 (by rw [Int.zero_sub, Int.neg_one_mul]; omega))
  unfold hv hasV
  rw [h1]
  unfold lea
  rw [if_pos hi]
  omega
theorem hv_bd (h : fitS n u m e) (a0 : 0 ≤ a) (b1 : 1 ≤ b) {i : Nat} (hi : i < n) : 0 ≤ hv u m e a b i ∧ hv u m e a b i ≤ 1048576 := by
  have := hv_up h a0 b1 hi
  have := hv_lo (u := u) (m := m) (e := e) (a := a) (b := b) (i := i)
  have := h.sp.low i hi
  have := h.sp.unit i hi
  omega

theorem fits_sum (hF : IsF n u (lo7 u m e) e load a b) : sm n (hv u m e a b) ≤ load := by
  have h1 := sm_le (n := n) (f := fun i => b * hv u m e a b i) (g := hav u (lo7 u m e) e a b) (fun i _ => (hv_floor hF.b1).1)
  rw [sm_mul] at h1
  exact Int.le_of_mul_le_mul_left (Int.le_trans h1 hF.enough) (by have := hF.b1; omega)
theorem fits_full (h : fitS n u m e) (hF : IsF n u (lo7 u m e) e load a b) (hl : sm n u ≤ load) : sm n (hv u m e a b) = sm n u := by
  obtain ⟨rfl, rfl⟩ := (isF_none h.sp hl).one hF
  refine sm_congr (fun i hi => ?_)
  have h1 : cl (0 * e i) 1 = 0 := by rw [Int.zero_mul]; decide
  unfold hv hasV
  rw [h1]
  have := h.sp.top i hi
  unfold lo7 at this
  omega
theorem fits_rest (h : fitS n u m e) (l0 : 0 ≤ load) (hF : IsF n u (lo7 u m e) e load a b) (hl : load < sm n u) : load < sm n (hv u m e a b) + n := by
  have hn : 1 ≤ n := by
    rcases Nat.eq_zero_or_pos n with rfl | h
    · have : load < 0 := hl; omega
    · exact h
  have h1 := sm_le (n := n) (f := fun i => hav u (lo7 u m e) e a b i + 1) (g := fun i => b * hv u m e a b i + b) (fun i _ => (hv_floor hF.b1).2)
  rw [sm_add n (hav u (lo7 u m e) e a b) (fun _ => 1), sm_add n (fun i => b * hv u m e a b i) (fun _ => b), sm_mul, sm_const, sm_const] at h1
  have h2 : sm n (hav u (lo7 u m e) e a b) = b * load := hF.just hl
  rw [h2] at h1
  have h3 : b * load < b * (sm n (hv u m e a b) + n) := by rw [Int.mul_add, Int.mul_comm b (n : Int)]; omega
  exact Int.lt_of_mul_lt_mul_left h3 (by have := hF.b1; omega)

/-- With more load no spring is pressed more. -/
theorem more_each (h : fitS n u m e) {more c d : Int} (hF : IsF n u (lo7 u m e) e load a b) (hG : IsF n u (lo7 u m e) e more c d) (hm : load ≤ more) {i : Nat} (hi : i < n) : hv u m e a b i ≤ hv u m e c d i := by
  have h1 := hG.least a b hF.a0 hF.b1 (Int.le_trans hF.enough (Int.mul_le_mul_of_nonneg_left hm (by have := hF.b1; omega)))
  have h2 := cl_ge (a := a * e i) hF.b1
  have hb := hF.b1
  have hd := hG.b1
  have he := h.sp.e0 i hi
  have h3 : cl (c * e i) d ≤ cl (a * e i) b := by
    refine cl_le_of hd ?_
    generalize cl (a * e i) b = q at *
    have k1 : c * b * e i ≤ a * d * e i := Int.mul_le_mul_of_nonneg_right h1 he
    have k2 : a * e i * d ≤ q * b * d := Int.mul_le_mul_of_nonneg_right h2 (by omega)
    have e1 : c * b * e i = b * (c * e i) := by rw [Int.mul_comm c b, Int.mul_assoc]
    have e2 : a * d * e i = a * e i * d := by rw [Int.mul_assoc, Int.mul_comm d, Int.mul_assoc]
    have e3 : q * b * d = b * (q * d) := by rw [Int.mul_comm q b, Int.mul_assoc]
    rw [e1, e2] at k1
    rw [e3] at k2
    exact Int.le_of_mul_le_mul_left (Int.le_trans k1 k2) (by omega)
  unfold hv hasV
  omega
theorem low_sum (hF : IsF n u (lo7 u m e) e (sm n (lo7 u m e)) a b) : sm n (hv u m e a b) = sm n (lo7 u m e) :=
  Int.le_antisymm (fits_sum hF) (sm_le (fun _ _ => hv_lo))
theorem low_bd (h : fitS n u m e) : 0 ≤ sm n (lo7 u m e) ∧ sm n (lo7 u m e) ≤ 4194304 := by
  constructor
  · exact sm_nonneg (fun i hi => by have := h.sp.low i hi; omega)
  · have := sm_le (n := n) (f := lo7 u m e) (g := fun _ => 1048576) (fun i hi => Int.le_trans (h.sp.top i hi) (h.sp.unit i hi))
    rw [sm_const] at this
    have := h.1
    omega
end
end Go.Proofs.YtjiockmphbhljaaDoor
