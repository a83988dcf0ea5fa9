/- The document's own force: by each set of springs: plain arithmetic. -/
import Derived.Test.YtjiockmphbhljaaDoorX16
namespace Go.Proofs.YtjiockmphbhljaaDoor

/-- Is the i-th one of a set? -/
def bit7 (t i : Nat) : Bool := decide (t / 2 ^ i % 2 = 1)
/-- What a set asks for, and by how many it gives. -/
def cA7 (n : Nat) (u lo : Nat → Int) (load : Int) (t : Nat) : Int := sm n (fun i => if bit7 t i then u i else lo i) - load
def cB7 (n : Nat) (e : Nat → Int) (t : Nat) : Int := sm n (sel (bit7 t) e)
def Val7 (n : Nat) (u lo e : Nat → Int) (load : Int) (t : Nat) : Prop := cB7 n e t ≠ 0 ∧ 0 ≤ cA7 n u lo load t ∧ tot n u lo e (cA7 n u lo load t) (cB7 n e t) ≤ cB7 n e t * load

/-- Every choice of the first n is a set's. -/
theorem bit_of (n : Nat) (S : Nat → Bool) : ∃ t, t < 2 ^ n ∧ ∀ i, i < n → bit7 t i = S i := by
  induction n generalizing S with
  | zero => exact ⟨0, by decide, fun i hi => by omega⟩
  | succ n ih =>
    obtain ⟨t, ht, h⟩ := ih (fun i => S (i + 1))
    refine ⟨2 * t + (if S 0 then 1 else 0), ?_, fun i hi => ?_⟩
    · rw [Nat.pow_succ]; split <;> omega
    · cases i with
      | zero =>
        unfold bit7
        rw [Nat.pow_zero, Nat.div_one]
        cases S 0
        · simp
        · simp
      | succ i =>
        have := h i (by omega)
        rw [← this]
        unfold bit7
        have e : (2 * t + (if S 0 then 1 else 0)) / 2 ^ (i + 1) = t / 2 ^ i := by
          rw [Nat.pow_succ, Nat.mul_comm (2 ^ i) 2, ← Nat.div_div_eq_div_mul]
          congr 1
          split <;> omega
        rw [e]

section
variable {n : Nat} {u lo e : Nat → Int} {load : Int}

/-- The best of the sets below k. -/
def Bst (n : Nat) (u lo e : Nat → Int) (load : Int) (k : Nat) (A B : Int) : Prop :=
  (B = 0 ∧ A = 0 ∧ ∀ t, 1 ≤ t → t < k → ¬ Val7 n u lo e load t) ∨ (1 ≤ B ∧ 0 ≤ A ∧ tot n u lo e A B ≤ B * load ∧ ∀ t, 1 ≤ t → t < k → Val7 n u lo e load t → A * cB7 n e t ≤ cA7 n u lo load t * B)
theorem bst_start : Bst n u lo e load 1 0 0 := .inl ⟨rfl, rfl, fun t h1 h2 => by omega⟩
theorem bst_skip {k : Nat} {A B : Int} (h : Bst n u lo e load k A B) (hv : ¬ Val7 n u lo e load k) : Bst n u lo e load (k + 1) A B := by
  rcases h with ⟨h1, h2, h3⟩ | ⟨h1, h2, h3, h4⟩
  · refine .inl ⟨h1, h2, fun t t1 t2 => ?_⟩
    rcases Nat.lt_succ_iff_lt_or_eq.1 t2 with t2 | rfl
    · exact h3 t t1 t2
    · exact hv
  · refine .inr ⟨h1, h2, h3, fun t t1 t2 ht => ?_⟩
    rcases Nat.lt_succ_iff_lt_or_eq.1 t2 with t2 | rfl
    · exact h4 t t1 t2 ht
    · exact absurd ht hv
theorem bst_keep {k : Nat} {A B : Int} (h : Bst n u lo e load k A B) (hB : B ≠ 0) (hc : ¬ cA7 n u lo load k * B < A * cB7 n e k) : Bst n u lo e load (k + 1) A B := by
  rcases h with ⟨h1, _, _⟩ | ⟨h1, h2, h3, h4⟩
  · exact absurd h1 hB
  · refine .inr ⟨h1, h2, h3, fun t t1 t2 ht => ?_⟩
    rcases Nat.lt_succ_iff_lt_or_eq.1 t2 with t2 | rfl
    · exact h4 t t1 t2 ht
    · omega
theorem cB7_nonneg (he : ∀ i, i < n → 0 ≤ e i) (t : Nat) : 0 ≤ cB7 n e t := sm_nonneg (fun i hi => sel_nonneg (he i hi))
theorem bst_take {k : Nat} {A B : Int} (he : ∀ i, i < n → 0 ≤ e i) (h : Bst n u lo e load k A B) (hv : Val7 n u lo e load k) (hc : B = 0 ∨ cA7 n u lo load k * B < A * cB7 n e k) : Bst n u lo e load (k + 1) (cA7 n u lo load k) (cB7 n e k) := by
  have hk0 := cB7_nonneg he k
  refine .inr ⟨by have := hv.1; omega, hv.2.1, hv.2.2, fun t t1 t2 ht => ?_⟩
  rcases Nat.lt_succ_iff_lt_or_eq.1 t2 with t2 | rfl
  · rcases h with ⟨h1, _, h3⟩ | ⟨h1, h2, h3, h4⟩
    · exact absurd ht (h3 t t1 t2)
    · have h5 := h4 t t1 t2 ht
      have h6 : cA7 n u lo load k * B < A * cB7 n e k := by
        rcases hc with hc | hc
        · omega
        · exact hc
      have ht0 := cB7_nonneg he t
      generalize cA7 n u lo load k = a1 at *
      generalize cB7 n e k = b1 at *
      generalize cA7 n u lo load t = a2 at *
      generalize cB7 n e t = b2 at *
      have k1 : a1 * B * b2 ≤ A * b1 * b2 := Int.mul_le_mul_of_nonneg_right (by omega) ht0
      have k2 : A * b2 * b1 ≤ a2 * B * b1 := Int.mul_le_mul_of_nonneg_right h5 hk0
      have e1 : A * b1 * b2 = A * b2 * b1 := by rw [Int.mul_assoc, Int.mul_comm b1, Int.mul_assoc]
      have e2 : a1 * B * b2 = B * (a1 * b2) := by rw [Int.mul_comm a1 B, Int.mul_assoc]
      have e3 : a2 * B * b1 = B * (a2 * b1) := by rw [Int.mul_comm a2 B, Int.mul_assoc]
      rw [e1] at k1
      have k3 := Int.le_trans k1 k2
      rw [e2, e3] at k3
      exact Int.le_of_mul_le_mul_left k3 (by omega)
  · exact Int.le_refl _

/-- The best of all sets is the least force. -/
theorem bst_end {A B A0 B0 : Int} {S : Nat → Bool} (hn : n ≤ 4) (h : Bst n u lo e load 16 A B) (hF : Fin7 n u lo e load S A0 B0) : 1 ≤ B ∧ 0 ≤ A ∧ A * B0 = A0 * B := by
  obtain ⟨t, ht, hb⟩ := bit_of n S
  have p16 : 2 ^ n ≤ 2 ^ 4 := Nat.pow_le_pow_right (by decide) hn
  have eA : cA7 n u lo load t = A0 := by rw [hF.isA]; unfold cA7; rw [sm_congr (fun i hi => by rw [hb i hi])]
  have eB : cB7 n e t = B0 := by rw [hF.isB]; unfold cB7 sel; rw [sm_congr (fun i hi => by rw [hb i hi])]
  have hv : Val7 n u lo e load t := by
    unfold Val7
    rw [eA, eB]
    exact ⟨by have := hF.B1; omega, by have := hF.A0; omega, by rw [hF.all]; exact Int.le_refl _⟩
  have t1 : 1 ≤ t := by
    rcases Nat.eq_zero_or_pos t with rfl | h
    · exfalso
      have : cB7 n e 0 = 0 := by
        unfold cB7
        rw [← sm_zero n]
        exact sm_congr (fun i _ => by unfold sel bit7; simp)
      have := hF.B1
      omega
    · exact h
  rcases h with ⟨_, _, h3⟩ | ⟨h1, h2, h3, h4⟩
  · exact absurd hv (h3 t t1 (by have : (2 : Nat) ^ 4 = 16 := by decide
                                 omega))
  · refine ⟨h1, h2, Int.le_antisymm ?_ ?_⟩
    · have := h4 t t1 (by have : (2 : Nat) ^ 4 = 16 := by decide
                          omega) hv
      rwa [eA, eB] at this
    · exact hF.least A B h1 h3

theorem cand_bd (hs : Sp7 n u lo e) (t : Nat) : (0 ≤ cB7 n e t ∧ cB7 n e t ≤ 32) ∧ cA7 n u lo load t ≤ 4194304 - load := by
  refine ⟨⟨cB7_nonneg hs.e0 t, ?_⟩, ?_⟩
  · have := sm_le (n := n) (f := sel (bit7 t) e) (g := fun _ => 8) (fun i hi => Int.le_trans (sel_le (hs.e0 i hi)) (hs.e8 i hi))
    rw [sm_const] at this
    have := hs.len
    unfold cB7
    omega
  · have := sm_le (n := n) (f := fun i => if bit7 t i then u i else lo i) (g := fun _ => 1048576) (fun i hi => by have := hs.top i hi; have := hs.unit i hi; split <;> omega)
    rw [sm_const] at this
    have := hs.len
    unfold cA7
    omega
end

/-- What is left of two numbers that were divided, as often as they could, by 2 to q - 1. -/
def Red7 (a b A B : Int) (q : Nat) : Prop := 0 ≤ A ∧ 1 ≤ B ∧ A * b = a * B ∧ ∀ k : Int, 2 ≤ k → k < q → ¬ (k ∣ A ∧ k ∣ B)
theorem red_step {a b A B : Int} {q : Nat} (hq : 2 ≤ q) (h : Red7 a b A B q) (hA : A % q = 0) (hB : B % q = 0) : Red7 a b (A / q) (B / q) q ∧ B / q < B := by
  obtain ⟨h1, h2, h3, h4⟩ := h
  obtain ⟨x, rfl⟩ := Int.dvd_of_emod_eq_zero hA
  obtain ⟨y, rfl⟩ := Int.dvd_of_emod_eq_zero hB
  have q0 : (0 : Int) < q := by omega
  rw [Int.mul_ediv_cancel_left _ (by omega), Int.mul_ediv_cancel_left _ (by omega)]
  have y1 : 1 ≤ y := by
    have := Int.pos_of_mul_pos_right (show 0 < (q : Int) * y by omega) (by omega)
    omega
  have x0 : 0 ≤ x := by
    by_cases c : 0 ≤ x
    · exact c
    · have := Int.mul_neg_of_pos_of_neg q0 (show x < 0 by omega); omega
  refine ⟨⟨x0, y1, ?_, fun k hk hkq hd => h4 k hk hkq ⟨Int.dvd_trans hd.1 (Int.dvd_mul_left _ _), Int.dvd_trans hd.2 (Int.dvd_mul_left _ _)⟩⟩, ?_⟩
  · have e1 : (q : Int) * x * b = q * (x * b) := Int.mul_assoc _ _ _
    have e2 : a * (q * y) = q * (a * y) := by rw [← Int.mul_assoc, Int.mul_comm a, Int.mul_assoc]
    rw [e1, e2] at h3
    exact Int.eq_of_mul_eq_mul_left (by omega) h3
  · have : 2 * y ≤ q * y := Int.mul_le_mul_of_nonneg_right (by omega) (by omega)
    omega
theorem red_next {a b A B : Int} {q : Nat} (h : Red7 a b A B q) (hn : ¬ (A % q = 0 ∧ B % q = 0)) : Red7 a b A B (q + 1) := by
  obtain ⟨h1, h2, h3, h4⟩ := h
  refine ⟨h1, h2, h3, fun k hk hkq hd => ?_⟩
  by_cases c : k < q
  · exact h4 k hk c hd
  · have : k = q := by omega
    subst this
    exact hn ⟨Int.emod_eq_zero_of_dvd hd.1, Int.emod_eq_zero_of_dvd hd.2⟩
theorem red_end {a b A B : Int} (h : Red7 a b A B 33) (hB : B ≤ 32) (b1 : 1 ≤ b) (hc : ∀ k : Int, 2 ≤ k → k ∣ a → k ∣ b → False) : A = a ∧ B = b := by
  obtain ⟨h1, h2, h3, h4⟩ := h
  exact cop_eq h2 b1 (fun k hk d1 d2 => h4 k hk (by have := Int.le_of_dvd (by omega) d2; omega) ⟨d1, d2⟩) hc h3
end Go.Proofs.YtjiockmphbhljaaDoor
