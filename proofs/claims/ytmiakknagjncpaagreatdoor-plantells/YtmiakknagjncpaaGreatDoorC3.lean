/- What plan tells, in numbers: plain. -/
import Derived.Test.YtmiakknagjncpaaGreatDoorY10
namespace Go.Proofs.YtmiakknagjncpaaGreatDoor
open Go.RowKit

/-- Are there springs? How many? -/
def spgB (n : Nat) (s : Nat → Sp) : Bool := decide (n ≤ 4) && spsB n s
def spgN (n : Nat) (s : Nat → Sp) : Nat := if spgB n s = true then n else 0
/-- Which error, and how many periods are told. -/
def errV (n : Nat) (s : Nat → Sp) (a b : Int) (rb : Bool) : Int :=
  if n ≤ 4 then (if spsB n s = true then (if rb = true then (if tst9 n (tgF s a b) = true then 0 else 6) else 5) else 1) else 3
def tgN (n : Nat) (s : Nat → Sp) (a b : Int) (rb : Bool) : Nat := if errV n s a b rb = 0 then n else 0
/-- The bound. -/
def cSum (l : Nat) (f : Nat → Fx) : Int := sm l fun i => (f i).c
def bndV (l : Nat) (f : Nat → Fx) (r : Int) : Int := if may9 l f = true ∧ 0 ≤ r ∧ r ≤ 1048576 then 16 * r + 32 * cSum l f + 1 else 0
/-- The force for tasks, in what all may have. -/
def FrT (n : Nat) (s : Nat → Sp) (a b : Int) (rb : Bool) : Prop := Frc n (topF s) (leaF s) (elF s) 983040 a b rb
theorem frT_exists (n : Nat) (s : Nat → Sp) : ∃ a b rb, FrT n s a b rb := frc_exists n (topF s) (leaF s) (elF s) 983040

section
variable {n : Nat} {s : Nat → Sp} {a b : Int} {rb : Bool}
theorem spg_yes (hn : n ≤ 4) (h : spsB n s = true) : spgB n s = true ∧ spgN n s = n := by
  have : spgB n s = true := by unfold spgB; rw [h, decide_eq_true hn]; rfl
  exact ⟨this, by unfold spgN; rw [if_pos this]⟩
theorem spg_long (hn : 4 < n) : spgB n s = false ∧ spgN n s = 0 := by
  have : spgB n s = false := by unfold spgB; rw [decide_eq_false (by omega)]; rfl
  exact ⟨this, by unfold spgN; rw [this]; rfl⟩
theorem spg_no (h : spsB n s = false) : spgB n s = false ∧ spgN n s = 0 := by
  have : spgB n s = false := by unfold spgB; rw [h]; exact Bool.and_false _
  exact ⟨this, by unfold spgN; rw [this]; rfl⟩
theorem err_full (hn : 4 < n) : errV n s a b rb = 3 := by unfold errV; rw [if_neg (by omega)]
theorem err_arg (hn : n ≤ 4) (h : spsB n s = false) : errV n s a b rb = 1 := by unfold errV; rw [if_pos hn, h]; rfl
theorem err_load (hn : n ≤ 4) (h : spsB n s = true) : errV n s a b false = 5 := by unfold errV; rw [if_pos hn, h]; rfl
theorem err_bound (hn : n ≤ 4) (h : spsB n s = true) (ht : tst9 n (tgF s a b) = false) : errV n s a b true = 6 := by unfold errV; rw [if_pos hn, h, ht]; rfl
theorem err_ok (hn : n ≤ 4) (h : spsB n s = true) (ht : tst9 n (tgF s a b) = true) : errV n s a b true = 0 := by unfold errV; rw [if_pos hn, h, ht]; rfl
theorem tg_ok (h : errV n s a b rb = 0) : tgN n s a b rb = n := by unfold tgN; rw [if_pos h]
theorem tg_no (h : ¬ errV n s a b rb = 0) : tgN n s a b rb = 0 := by unfold tgN; rw [if_neg h]
theorem err_cases : (4 < n ∧ errV n s a b rb = 3) ∨ (n ≤ 4 ∧ spsB n s = false ∧ errV n s a b rb = 1) ∨ (n ≤ 4 ∧ spsB n s = true ∧ rb = false ∧ errV n s a b rb = 5) ∨ (n ≤ 4 ∧ spsB n s = true ∧ rb = true ∧ tst9 n (tgF s a b) = false ∧ errV n s a b rb = 6) ∨ (n ≤ 4 ∧ spsB n s = true ∧ rb = true ∧ tst9 n (tgF s a b) = true ∧ errV n s a b rb = 0) := by
  by_cases hn : n ≤ 4
  · right
    cases h : spsB n s with
    | false => exact .inl ⟨hn, rfl, err_arg hn h⟩
    | true =>
      right
      cases rb with
      | false => exact .inl ⟨hn, rfl, rfl, err_load hn h⟩
      | true =>
        right
        cases ht : tst9 n (tgF s a b) with
        | false => exact .inl ⟨hn, rfl, rfl, rfl, err_bound hn h ht⟩
        | true => exact .inr ⟨hn, rfl, rfl, rfl, err_ok hn h ht⟩
  · exact .inl ⟨by omega, err_full (by omega)⟩
theorem frT_room (hn : n ≤ 4) (h : spsB n s = true) (hF : FrT n s a b rb) : rb = decide (sm n (leaF s) ≤ 983040) := by
  have hf := sps_fit hn h
  have e : sm n (lo7 (topF s) (leaF s) (elF s)) = sm n (leaF s) := sm_congr fun i hi => sps_lo h hi
  rw [← hF.1]
  by_cases c : sm n (leaF s) ≤ 983040
  · rw [decide_eq_true c]; exact roomB_yes hf (by omega) (by omega) (by omega)
  · rw [decide_eq_false c]
    cases hr : roomB n (topF s) (leaF s) (elF s) 983040 with
    | false => rfl
    | true => have := (roomB_of hr).2.2; omega
theorem frT_is (hF : FrT n s a b true) : IsT n s 983040 a b := hF.2.1 rfl
/-- The units that each is pressed to, as a list. -/
theorem prs_at (i : Nat) (hi : i < n) : (prs7 n (topF s) (leaF s) (elF s) a b true).getD i 0 = unF s a b i := by
  unfold prs7
  rw [cond_true, lst7_at hi]
  rfl
theorem prs_len : (prs7 n (topF s) (leaF s) (elF s) a b true).length = n := by
  unfold prs7
  rw [cond_true, lst7_len]
/-- Bounds of sums. -/
theorem atV_no {s : Sp} {p : Int} (h : maySp s = false) : atV s p = 0 := by unfold atV atB; rw [h]; rfl
theorem top_bd (s : Nat → Sp) (i : Nat) : 0 ≤ topF s i ∧ topF s i ≤ 1048576 := by
  unfold topF
  cases h : maySp (s i) with
  | true => have := sp_spr h; omega
  | false => rw [atV_no h]; omega
theorem lea_bd (s : Nat → Sp) (i : Nat) : 0 ≤ leaF s i ∧ leaF s i ≤ 1048576 := by
  unfold leaF
  cases h : maySp (s i) with
  | true => have := sp_spr h; omega
  | false => unfold leastV; split <;> rw [atV_no h] <;> omega
theorem may9_c {l : Nat} {f : Nat → Fx} (h : may9 l f = true) (i : Nat) (hi : i < l) : 1 ≤ (f i).c ∧ (f i).c ≤ 6 := by
  obtain ⟨l4, hk, _⟩ := may9_facts h
  have hkn := knAll_of hk hi
  unfold knB at hkn
  rw [Bool.and_eq_true] at hkn
  obtain ⟨c0, c1, _⟩ := may_facts hkn.1
  exact ⟨c0, c1⟩
theorem cSum_bd {l : Nat} {f : Nat → Fx} (h : may9 l f = true) (j : Nat) (hj : j ≤ l) : 0 ≤ cSum j f ∧ cSum j f ≤ 6 * j := by
  induction j with
  | zero => exact ⟨Int.le_refl _, Int.le_refl _⟩
  | succ j ih =>
    obtain ⟨h1, h2⟩ := ih (by omega)
    obtain ⟨h3, h4⟩ := may9_c h j (by omega)
    have e : cSum (j + 1) f = cSum j f + (f j).c := rfl
    omega
theorem bnd_yes {l : Nat} {f : Nat → Fx} {r : Int} (h : may9 l f = true) (r0 : 0 ≤ r) (r1 : r ≤ 1048576) : bndV l f r = 16 * r + 32 * cSum l f + 1 := by unfold bndV; rw [if_pos ⟨h, r0, r1⟩]
theorem bnd_no {l : Nat} {f : Nat → Fx} {r : Int} (h : may9 l f = false ∨ r < 0 ∨ 1048576 < r) : bndV l f r = 0 := by
  unfold bndV
  rw [if_neg]
  rintro ⟨h1, h2, h3⟩
  rcases h with h | h | h
  · rw [h1] at h; cases h
  · omega
  · omega
/-- In another order. -/
def revS (n : Nat) (s : Nat → Sp) (i : Nat) : Sp := s (n - 1 - i)
theorem rev_sps : spsB n (revS n s) = spsB n s := by
  cases h : spsB n s with
  | true => exact sps_yes fun i hi => sps_of h (show n - 1 - i < n by omega)
  | false =>
    cases h' : spsB n (revS n s) with
    | false => rfl
    | true =>
      have : spsB n s = true := sps_yes fun i hi => by
        have := sps_of h' (show n - 1 - i < n by omega)
        unfold revS at this
        rwa [show n - 1 - (n - 1 - i) = i by omega] at this
      rw [this] at h; cases h
theorem rev_frT (h : FrT n s a b rb) : FrT n (revS n s) a b rb := rev7_frc h
theorem rev_tg (i : Nat) : tgF (revS n s) a b i = tgF s a b (n - 1 - i) := rfl
theorem rev_err : errV n (revS n s) a b rb = errV n s a b rb := by
  have e : tst9 n (tgF (revS n s) a b) = tst9 n (tgF s a b) := tst_rev_iff (f := tgF s a b)
  unfold errV
  rw [rev_sps, e]
end
/-- The chapter's example. -/
def twoS (i : Nat) : Sp := if i = 0 then ⟨4, 5, 20, 1, 1, 1⟩ else ⟨4, 8, 20, 1, 1, 1⟩
theorem two_frT : FrT 2 twoS 380109 2 true := by
  have hm : spsB 2 twoS = true := by decide
  have hf := sps_fit (by omega) hm
  refine ⟨roomB_yes hf (by omega) (by omega) (by decide), fun _ => ?_, fun h => by cases h⟩
  have hF : Fin7 2 (topF twoS) (lo7 (topF twoS) (leaF twoS) (elF twoS)) (elF twoS) 983040 (fun _ => true) 380109 2 := ⟨by omega, by omega, by omega, by omega, by decide, by decide, by decide, fun c d _ ht => fin_least (S := fun _ => true) (by decide) (by decide) c d ht⟩
  refine hF.isF (g := 1) (by omega) (by omega) (by omega) (fun k hk h1 h2 => ?_)
  have := Int.le_of_dvd (by omega) h2
  obtain rfl : k = 2 := by omega
  omega
end Go.Proofs.YtmiakknagjncpaaGreatDoor
