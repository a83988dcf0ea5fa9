/- Sums over the first numbers, and the least force by which springs have no more than a load: plain arithmetic. -/
import Derived.Test.YtjiockmphbhljaaDoorW1
namespace Go.Proofs.YtjiockmphbhljaaDoor

/-- g of the first n numbers, together. -/
def sm : Nat → (Nat → Int) → Int
  | 0, _ => 0
  | n + 1, g => sm n g + g n
theorem sm_congr {n : Nat} {f g : Nat → Int} (h : ∀ i, i < n → f i = g i) : sm n f = sm n g := by
  induction n with
  | zero => rfl
  | succ n ih => show sm n f + f n = sm n g + g n; rw [ih (fun i hi => h i (by omega)), h n (by omega)]
theorem sm_le {n : Nat} {f g : Nat → Int} (h : ∀ i, i < n → f i ≤ g i) : sm n f ≤ sm n g := by
  induction n with
  | zero => exact Int.le_refl _
  | succ n ih => have := ih (fun i hi => h i (by omega)); have := h n (by omega); show sm n f + f n ≤ sm n g + g n; omega
theorem sm_add (n : Nat) (f g : Nat → Int) : sm n (fun i => f i + g i) = sm n f + sm n g := by
  induction n with
  | zero => rfl
  | succ n ih => show sm n (fun i => f i + g i) + (f n + g n) = (sm n f + f n) + (sm n g + g n); rw [ih]; omega
theorem sm_sub (n : Nat) (f g : Nat → Int) : sm n (fun i => f i - g i) = sm n f - sm n g := by
  induction n with
  | zero => rfl
  | succ n ih => show sm n (fun i => f i - g i) + (f n - g n) = (sm n f + f n) - (sm n g + g n); rw [ih]; omega
theorem sm_mul (n : Nat) (k : Int) (f : Nat → Int) : sm n (fun i => k * f i) = k * sm n f := by
  induction n with
  | zero => show (0 : Int) = k * 0; omega
  | succ n ih => show sm n (fun i => k * f i) + k * f n = k * (sm n f + f n); rw [ih, Int.mul_add]
theorem sm_zero (n : Nat) : sm n (fun _ => 0) = 0 := by
  induction n with
  | zero => rfl
  | succ n ih => show sm n (fun _ => 0) + 0 = 0; rw [ih]; rfl
theorem sm_const (n : Nat) (k : Int) : sm n (fun _ => k) = n * k := by
  induction n with
  | zero => show (0 : Int) = (0 : Nat) * k; simp
  | succ n ih => show sm n (fun _ => k) + k = _; rw [ih, Int.natCast_add, Int.add_mul]; simp
theorem sm_nonneg {n : Nat} {f : Nat → Int} (h : ∀ i, i < n → 0 ≤ f i) : 0 ≤ sm n f := by
  rw [← sm_zero n]; exact sm_le h
theorem sm_one_le {n : Nat} {f : Nat → Int} (h : ∀ i, i < n → 0 ≤ f i) {x : Nat} (hx : x < n) : f x ≤ sm n f := by
  induction n with
  | zero => omega
  | succ n ih =>
    show f x ≤ sm n f + f n
    rcases Nat.lt_succ_iff_lt_or_eq.1 hx with h1 | rfl
    · have := ih (fun i hi => h i (by omega)) h1; have := h n (by omega); omega
    · have := sm_nonneg (n := x) (f := f) (fun i hi => h i (by omega)); omega
theorem sm_pos {n : Nat} {f : Nat → Int} (h : 0 < sm n f) : ∃ i, i < n ∧ 0 < f i := by
  induction n with
  | zero => exact absurd h (Int.lt_irrefl 0)
  | succ n ih =>
    by_cases hn : 0 < f n
    · exact ⟨n, by omega, hn⟩
    · obtain ⟨i, hi, h2⟩ := ih (by have : 0 < sm n f + f n := h; omega)
      exact ⟨i, by omega, h2⟩
/-- All are no more, and together they are as many: each is as many. -/
theorem sm_eq_each {n : Nat} {f g : Nat → Int} (h : ∀ i, i < n → f i ≤ g i) (he : sm n g ≤ sm n f) : ∀ i, i < n → f i = g i := by
  intro i hi
  have h0 : ∀ j, j < n → 0 ≤ g j - f j := fun j hj => by have := h j hj; omega
  have h1 := sm_one_le h0 hi
  rw [sm_sub] at h1
  have := h i hi
  omega
/-- One of them is other. -/
theorem sm_turn {n : Nat} {f g : Nat → Int} {x : Nat} (hx : x < n) (h : ∀ i, i < n → i ≠ x → f i = g i) : sm n f = sm n g + (f x - g x) := by
  induction n with
  | zero => omega
  | succ n ih =>
    show sm n f + f n = sm n g + g n + (f x - g x)
    by_cases hxn : x = n
    · subst hxn
      rw [sm_congr (fun i hi => h i (by omega) (by omega))]; omega
    · rw [ih (by omega) (fun i hi => h i (by omega)), h n (by omega) (Ne.symm hxn)]; omega
theorem sm_front (n : Nat) (g : Nat → Int) : sm (n + 1) g = g 0 + sm n (fun i => g (i + 1)) := by
  induction n with
  | zero => show 0 + g 0 = g 0 + 0; omega
  | succ n ih => show sm (n + 1) g + g (n + 1) = g 0 + (sm n (fun i => g (i + 1)) + g (n + 1)); rw [ih]; omega
theorem sm_back (n : Nat) (g : Nat → Int) : sm n (fun i => g (n - 1 - i)) = sm n g := by
  induction n generalizing g with
  | zero => rfl
  | succ n ih =>
    rw [sm_front n g, ← ih (fun i => g (i + 1))]
    show sm n (fun i => g (n + 1 - 1 - i)) + g (n + 1 - 1 - n) = _
    have e : sm n (fun i => g (n + 1 - 1 - i)) = sm n (fun i => g (n - 1 - i + 1)) := sm_congr (fun i hi => by congr 1; omega)
    rw [e]
    have : n + 1 - 1 - n = 0 := by omega
    rw [this]; omega

section
variable (n : Nat) (U L E : Nat → Int)

/-- Springs that may be: U, the least, and E of each. -/
structure Sp7 : Prop where
  len : n ≤ 4
  low : ∀ i, i < n → 1 ≤ L i
  top : ∀ i, i < n → L i ≤ U i
  unit : ∀ i, i < n → U i ≤ 1048576
  e0 : ∀ i, i < n → 0 ≤ E i
  e8 : ∀ i, i < n → E i ≤ 8
  stiff : ∀ i, i < n → E i = 0 → L i = U i

/-- What one has by a through b, times b. -/
def hav (a b : Int) (i : Nat) : Int := max (b * U i - a * E i) (b * L i)
def tot (a b : Int) : Int := sm n (hav U L E a b)

/-- The least force by which they have no more than load: a through b. -/
structure IsF (load a b : Int) : Prop where
  a0 : 0 ≤ a
  b1 : 1 ≤ b
  b32 : b ≤ 32
  abig : a ≤ 4194304
  cop : ∀ k : Int, 2 ≤ k → k ∣ a → k ∣ b → False
  enough : tot n U L E a b ≤ b * load
  just : load < sm n U → tot n U L E a b = b * load
  least : ∀ c d : Int, 0 ≤ c → 1 ≤ d → tot n U L E c d ≤ d * load → a * d ≤ c * b

variable {n U L E}

theorem hav_mul {k a b : Int} (hk : 0 ≤ k) (i : Nat) : hav U L E (k * a) (k * b) i = k * hav U L E a b i := by
  unfold hav
  have e1 : k * b * U i - k * a * E i = k * (b * U i - a * E i) := by rw [Int.mul_sub, Int.mul_assoc, Int.mul_assoc]
  have e2 : k * b * L i = k * (b * L i) := Int.mul_assoc _ _ _
  rw [e1, e2]
  generalize b * U i - a * E i = x
  generalize b * L i = y
  by_cases h : x ≤ y
  · rw [Int.max_eq_right h, Int.max_eq_right (Int.mul_le_mul_of_nonneg_left h hk)]
  · rw [Int.max_eq_left (show y ≤ x by omega), Int.max_eq_left (Int.mul_le_mul_of_nonneg_left (show y ≤ x by omega) hk)]
theorem tot_mul {k a b : Int} (hk : 0 ≤ k) : tot n U L E (k * a) (k * b) = k * tot n U L E a b := by
  unfold tot
  rw [← sm_mul]
  exact sm_congr (fun i _ => hav_mul hk i)

theorem dvd_cop {b a d : Int} (h : b ∣ a * d) (hg : Int.gcd b a = 1) : b ∣ d := by
  have h1 := Int.natAbs_dvd_natAbs.2 h
  rw [Int.natAbs_mul] at h1
  exact Int.natAbs_dvd_natAbs.1 (Nat.Coprime.dvd_of_dvd_mul_left (show Nat.Coprime b.natAbs a.natAbs from hg) h1)
/-- Two numbers that have nothing in common, as two others: the same. -/
theorem cop_eq {a b c d : Int} (hb : 1 ≤ b) (hd : 1 ≤ d) (h1 : ∀ k : Int, 2 ≤ k → k ∣ a → k ∣ b → False) (h2 : ∀ k : Int, 2 ≤ k → k ∣ c → k ∣ d → False) (he : a * d = c * b) : a = c ∧ b = d := by
  have g1 : Int.gcd a b = 1 := by
    have p : 0 < Int.gcd a b := Int.gcd_pos_of_ne_zero_right a (by omega)
    by_cases q : 2 ≤ Int.gcd a b
    · exact (h1 (Int.gcd a b) (by omega) (Int.gcd_dvd_left ..) (Int.gcd_dvd_right ..)).elim
    · omega
  have g2 : Int.gcd c d = 1 := by
    have p : 0 < Int.gcd c d := Int.gcd_pos_of_ne_zero_right c (by omega)
    by_cases q : 2 ≤ Int.gcd c d
    · exact (h2 (Int.gcd c d) (by omega) (Int.gcd_dvd_left ..) (Int.gcd_dvd_right ..)).elim
    · omega
  have d1 : b ∣ d := by
    have : b ∣ a * d := ⟨c, by rw [he, Int.mul_comm]⟩
    exact dvd_cop this (by rw [Int.gcd_comm]; exact g1)
  have d2 : d ∣ b := by
    have : d ∣ c * b := ⟨a, by rw [← he, Int.mul_comm]⟩
    exact dvd_cop this (by rw [Int.gcd_comm]; exact g2)
  have hbd : b = d := Int.le_antisymm (Int.le_of_dvd (by omega) d1) (Int.le_of_dvd (by omega) d2)
  subst hbd
  exact ⟨Int.eq_of_mul_eq_mul_right (by omega) he, rfl⟩

theorem IsF.one {load a b c d : Int} (h : IsF n U L E load a b) (h' : IsF n U L E load c d) : a = c ∧ b = d :=
  cop_eq h.b1 h'.b1 h.cop h'.cop (Int.le_antisymm (h.least c d h'.a0 h'.b1 h'.enough) (h'.least a b h.a0 h.b1 h.enough))

/-- What a set of springs asks for, that has what the others leave. -/
structure Fin7 (n : Nat) (U L E : Nat → Int) (load : Int) (S : Nat → Bool) (A B : Int) : Prop where
  A0 : 0 < A
  A22 : A ≤ 4194304
  B1 : 1 ≤ B
  B32 : B ≤ 32
  isA : A = sm n (fun i => if S i then U i else L i) - load
  isB : B = sm n (fun i => if S i then E i else 0)
  all : tot n U L E A B = B * load
  least : ∀ c d : Int, 1 ≤ d → tot n U L E c d ≤ d * load → A * d ≤ c * B

theorem fin_least {load A B : Int} {S : Nat → Bool} (hA : A = sm n (fun i => if S i then U i else L i) - load) (hB : B = sm n (fun i => if S i then E i else 0)) (c d : Int) (h : tot n U L E c d ≤ d * load) : A * d ≤ c * B := by
  have h1 : sm n (fun i => d * (if S i then U i else L i) - c * (if S i then E i else 0)) ≤ tot n U L E c d := by
    refine sm_le (fun i _ => ?_)
    unfold hav
    cases S i
    · have e : c * 0 = 0 := Int.mul_zero c
      simp only [Bool.false_eq_true, if_false, e]
      omega
    · simp only [if_true]; omega
  rw [sm_sub, sm_mul, sm_mul, ← hB] at h1
  have h2 : d * sm n (fun i => if S i then U i else L i) = d * A + d * load := by rw [hA, Int.mul_sub]; omega
  rw [h2] at h1
  rw [Int.mul_comm A d]
  omega

/-- In the least numbers: the force. -/
theorem Fin7.isF {load A B a b g : Int} {S : Nat → Bool} (h : Fin7 n U L E load S A B) (hg : 1 ≤ g) (ha : A = g * a) (hb : B = g * b) (cop : ∀ k : Int, 2 ≤ k → k ∣ a → k ∣ b → False) : IsF n U L E load a b := by
  have a1 : 1 ≤ a := by
    have h1 := h.A0; rw [ha] at h1
    have := Int.pos_of_mul_pos_right h1 (by omega)
    omega
  have b1 : 1 ≤ b := by
    have h1 := h.B1; rw [hb] at h1
    have : 0 < g * b := by omega
    have := Int.pos_of_mul_pos_right this (by omega)
    omega
  have hbB : b ≤ B := by rw [hb]; have := Int.mul_le_mul_of_nonneg_right hg (show (0 : Int) ≤ b by omega); omega
  have haA : a ≤ A := by rw [ha]; have := Int.mul_le_mul_of_nonneg_right hg (show (0 : Int) ≤ a by omega); omega
  have hall := h.all
  rw [ha, hb, tot_mul (by omega), Int.mul_assoc] at hall
  have hall := Int.eq_of_mul_eq_mul_left (by omega) hall
  refine ⟨by omega, b1, by have := h.B32; omega, by have := h.A22; omega, cop, by omega, fun _ => hall, fun c d _ hd ht => ?_⟩
  have := h.least c d hd ht
  rw [ha, hb] at this
  have e1 : g * a * d = g * (a * d) := Int.mul_assoc _ _ _
  have e2 : c * (g * b) = g * (c * b) := by rw [← Int.mul_assoc, Int.mul_comm c g, Int.mul_assoc]
  rw [e1, e2] at this
  exact Int.le_of_mul_le_mul_left this (by omega)

/-- Where all fit nothing is pressed. -/
theorem isF_none {load : Int} (hs7 : Sp7 n U L E) (h : sm n U ≤ load) : IsF n U L E load 0 1 := by
  have ht : tot n U L E 0 1 = sm n U := by
    refine sm_congr (fun i hi => ?_)
    unfold hav
    have := hs7.top i hi
    have e : (0 : Int) * E i = 0 := Int.zero_mul _
    rw [e]
    omega
  refine ⟨by omega, by omega, by omega, by omega, fun k hk _ hd => ?_, by omega, fun hl => by omega, fun c d hc hd ht => ?_⟩
  · have := Int.le_of_dvd (by omega) hd; omega
  · rw [Int.zero_mul, Int.mul_one]; exact hc
end
end Go.Proofs.YtjiockmphbhljaaDoor
