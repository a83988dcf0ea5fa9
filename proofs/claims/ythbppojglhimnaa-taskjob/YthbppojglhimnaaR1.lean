/- What a ring is: a list of outcomes, the last one first; and what is counted of it. Plain arithmetic. -/
import Derived.Test.YthbppojglhimnaaM1
namespace Go.Proofs.Ythbppojglhimnaa
open Go.RowKit

/-- A ring's number: the last outcome is its lowest bit. -/
def val : List Bool → Nat
  | [] => 0
  | g :: zs => g.toNat + 2 * val zs

def dec : Nat → Nat → List Bool
  | 0, _ => []
  | n + 1, b => (b % 2 == 1) :: dec n (b / 2)

theorem toNat_lt (g : Bool) : g.toNat < 2 := by cases g <;> decide

theorem val_lt (zs : List Bool) : val zs < 2 ^ zs.length := by
  induction zs with
  | nil => simp [val]
  | cons g zs ih => have := toNat_lt g; simp only [val, List.length_cons, Nat.pow_succ]; omega

theorem val_drop (zs : List Bool) (n : Nat) : val zs / 2 ^ n = val (zs.drop n) := by
  induction n generalizing zs with
  | zero => simp
  | succ n ih =>
    cases zs with
    | nil => simp [val]
    | cons g zs =>
      have := toNat_lt g
      rw [Nat.pow_succ, Nat.mul_comm, ← Nat.div_div_eq_div_mul, List.drop_succ_cons, ← ih]
      congr 1; simp only [val]; omega

theorem val_take (zs : List Bool) (n : Nat) : val (zs.take n) = val zs % 2 ^ n := by
  induction n generalizing zs with
  | zero => simp [val, Nat.mod_one]
  | succ n ih =>
    cases zs with
    | nil => simp [val]
    | cons g zs =>
      have h := toNat_lt g
      rw [List.take_succ_cons]
      simp only [val]
      rw [ih, Nat.pow_succ, Nat.mul_comm (2 ^ n) 2, Nat.mod_mul, Nat.add_mul_mod_self_left, Nat.mod_eq_of_lt h]
      congr 2
      rw [Nat.add_mul_div_left _ _ (by omega : 0 < 2), Nat.div_eq_of_lt h]; simp

theorem val_bit (zs : List Bool) (i : Nat) : val zs / 2 ^ i % 2 = (zs.getD i false).toNat := by
  rw [val_drop]
  induction i generalizing zs with
  | zero =>
    cases zs with
    | nil => rfl
    | cons g zs => have := toNat_lt g; simp only [List.drop_zero, val, List.getD_cons_zero]; omega
  | succ i ih =>
    cases zs with
    | nil => rfl
    | cons g zs => simpa using ih zs

theorem dec_len (n b : Nat) : (dec n b).length = n := by
  induction n generalizing b with
  | zero => rfl
  | succ n ih => simp [dec, ih]

theorem val_dec (n b : Nat) (h : b < 2 ^ n) : val (dec n b) = b := by
  induction n generalizing b with
  | zero => simp at h; simp [dec, val, h]
  | succ n ih =>
    rw [Nat.pow_succ] at h
    simp only [dec, val]
    rw [ih _ (by omega)]
    rcases Nat.mod_two_eq_zero_or_one b with e | e <;> simp [e] <;> omega

theorem dec_val (zs : List Bool) : dec zs.length (val zs) = zs := by
  induction zs with
  | nil => rfl
  | cons g zs ih =>
    have h := toNat_lt g
    simp only [List.length_cons, dec, val]
    rw [Nat.add_mul_div_left _ _ (by omega : 0 < 2), Nat.div_eq_of_lt h, Nat.add_mul_mod_self_left, Nat.mod_eq_of_lt h]
    simp [ih]
    cases g <;> rfl

/-- May a ring be? -/
def mayR (N B : Int) : Bool := decide (0 ≤ N ∧ N ≤ 60 ∧ B / 2 ^ N.toNat = 0)
/-- What is read of a ring. -/
def ringOf (N B : Int) : List Bool := bif mayR N B then dec N.toNat B.toNat else []
/-- A ring as a value. -/
def ringV (zs : List Bool) : Value := .agg #[.int .i64 zs.length, .int .u64 (val zs)]

theorem two_pow_pos' (j : Nat) : (0 : Int) < 2 ^ j := Int.pow_pos (by omega)
theorem pow_cast (n : Nat) : ((2 ^ n : Nat) : Int) = (2 : Int) ^ n := by simp

theorem mayR_val {zs : List Bool} (h : zs.length ≤ 60) : mayR zs.length (val zs) = true := by
  refine decide_eq_true ⟨by omega, by omega, ?_⟩
  rw [Int.toNat_natCast, ← pow_cast, ← Int.natCast_ediv, Nat.div_eq_of_lt (val_lt zs)]; rfl

theorem ringOf_val {zs : List Bool} (h : zs.length ≤ 60) : ringOf zs.length (val zs) = zs := by
  unfold ringOf; rw [mayR_val h]; simpa using dec_val zs

theorem ringOf_len (N B : Int) : (ringOf N B).length ≤ 60 := by
  unfold ringOf
  cases h : mayR N B
  · simp
  · have := of_decide_eq_true h
    simp [dec_len]; omega

theorem mayR_open {N B : Int} (h : mayR N B = true) : 0 ≤ N ∧ N ≤ 60 ∧ B < 2 ^ N.toNat := by
  obtain ⟨h0, h1, h2⟩ := of_decide_eq_true h
  refine ⟨h0, h1, ?_⟩
  have e := Int.mul_ediv_add_emod B (2 ^ N.toNat)
  have l := Int.emod_lt_of_pos B (two_pow_pos' N.toNat)
  rw [h2, Int.mul_zero] at e; omega

/-- A ring that may be is one of some outcomes. -/
theorem ring_open {N B : Int} (h : mayR N B = true) (b0 : 0 ≤ B) : N = (ringOf N B).length ∧ B = val (ringOf N B) := by
  obtain ⟨h0, h1, h2⟩ := mayR_open h
  obtain ⟨n, rfl⟩ := Int.eq_ofNat_of_zero_le h0
  obtain ⟨b, rfl⟩ := Int.eq_ofNat_of_zero_le b0
  unfold ringOf; rw [h]
  simp only [Int.toNat_natCast, ← pow_cast] at h2
  simp only [cond_true, Int.toNat_natCast, dec_len]
  rw [val_dec _ _ (by omega)]
  simp

theorem ringOf_no {N B : Int} (h : mayR N B = false) : ringOf N B = [] := by unfold ringOf; rw [h]; rfl

/-- How many of n numbers from a on have f. -/
def cnt (f : Nat → Bool) (a : Nat) : Nat → Nat
  | 0 => 0
  | n + 1 => cnt f a n + (f (a + n)).toNat

theorem cnt_le (f : Nat → Bool) (a n : Nat) : cnt f a n ≤ n := by
  induction n with
  | zero => simp [cnt]
  | succ n ih => have := toNat_lt (f (a + n)); simp only [cnt]; omega
theorem cnt_mono (f : Nat → Bool) (a : Nat) {n m : Nat} (h : n ≤ m) : cnt f a n ≤ cnt f a m := by
  induction m with
  | zero => simp at h; subst h; exact Nat.le_refl _
  | succ m ih =>
    rcases Nat.lt_or_ge m n with h' | h'
    · obtain rfl : n = m + 1 := by omega
      exact Nat.le_refl _
    · have := ih h'; simp only [cnt]; omega
theorem cnt_head (f : Nat → Bool) (a n : Nat) : cnt f a (n + 1) = (f a).toNat + cnt f (a + 1) n := by
  induction n with
  | zero => simp [cnt]
  | succ n ih =>
    rw [cnt, ih]
    simp only [cnt]
    rw [show a + (n + 1) = a + 1 + n by omega]; omega
theorem cnt_congr {f g : Nat → Bool} {a b n : Nat} (h : ∀ i, i < n → f (a + i) = g (b + i)) : cnt f a n = cnt g b n := by
  induction n with
  | zero => rfl
  | succ n ih => simp only [cnt]; rw [ih (fun i hi => h i (by omega)), h n (by omega)]
end Go.Proofs.Ythbppojglhimnaa
