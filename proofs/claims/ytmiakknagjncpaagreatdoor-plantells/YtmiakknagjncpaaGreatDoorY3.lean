/- Texts that belong together, one behind the other: X1, X2, X3, V8. -/
import Derived.Test.YtmiakknagjncpaaGreatDoorY1
import Derived.Test.YtmiakknagjncpaaGreatDoorY2
import Derived.Deep.RegionWith
import Derived.Deep.RegionHeld3
import Derived.BigQuiet
import Derived.ProofKit
import Derived.OpenShut
import Derived.Carry
import Derived.Lib.SmallJoins
import Derived.Deep.SlicePairs
import Derived.SizedLaws
/- Sums over the first numbers, and the least force by which springs have no more than a load: plain arithmetic. -/
namespace Go.Proofs.YtmiakknagjncpaaGreatDoor

/-- g of the first n numbers, together. -/
def sm : Nat → (Nat → Int) → Int
  | 0, _ => 0
  | n + 1, g => sm n g + g n
theorem sm_congr {n : Nat} {f g : Nat → Int} (h : ∀ i, i < n → f i = g i) : sm n f = sm n g := by
  induction n with
  | zero => rfl
  | succ n ih => show sm n f + f n = sm n g + g n; rw [ih (fun i hi => h i (by omega)), h n (by omega)]
theorem sm_le {n : Nat} {f g : Nat → Int} (h : ∀ i, i < n → f i ≤ g i) : sm n f ≤ sm n g := by
  induction n with
  | zero => exact Int.le_refl _
  | succ n ih => have := ih (fun i hi => h i (by omega)); have := h n (by omega); show sm n f + f n ≤ sm n g + g n; omega
theorem sm_add (n : Nat) (f g : Nat → Int) : sm n (fun i => f i + g i) = sm n f + sm n g := by
  induction n with
  | zero => rfl
  | succ n ih => show sm n (fun i => f i + g i) + (f n + g n) = (sm n f + f n) + (sm n g + g n); rw [ih]; omega
theorem sm_sub (n : Nat) (f g : Nat → Int) : sm n (fun i => f i - g i) = sm n f - sm n g := by
  induction n with
  | zero => rfl
  | succ n ih => show sm n (fun i => f i - g i) + (f n - g n) = (sm n f + f n) - (sm n g + g n); rw [ih]; omega
theorem sm_mul (n : Nat) (k : Int) (f : Nat → Int) : sm n (fun i => k * f i) = k * sm n f := by
  induction n with
  | zero => show (0 : Int) = k * 0; omega
  | succ n ih => show sm n (fun i => k * f i) + k * f n = k * (sm n f + f n); rw [ih, Int.mul_add]
theorem sm_zero (n : Nat) : sm n (fun _ => 0) = 0 := by
  induction n with
  | zero => rfl
  | succ n ih => show sm n (fun _ => 0) + 0 = 0; rw [ih]; rfl
theorem sm_const (n : Nat) (k : Int) : sm n (fun _ => k) = n * k := by
  induction n with
  | zero => show (0 : Int) = (0 : Nat) * k; simp
  | succ n ih => show sm n (fun _ => k) + k = _; rw [ih, Int.natCast_add, Int.add_mul]; simp
theorem sm_nonneg {n : Nat} {f : Nat → Int} (h : ∀ i, i < n → 0 ≤ f i) : 0 ≤ sm n f := by
  rw [← sm_zero n]; exact sm_le h
theorem sm_one_le {n : Nat} {f : Nat → Int} (h : ∀ i, i < n → 0 ≤ f i) {x : Nat} (hx : x < n) : f x ≤ sm n f := by
  induction n with
  | zero => omega
  | succ n ih =>
    show f x ≤ sm n f + f n
    rcases Nat.lt_succ_iff_lt_or_eq.1 hx with h1 | rfl
    · have := ih (fun i hi => h i (by omega)) h1; have := h n (by omega); omega
    · have := sm_nonneg (n := x) (f := f) (fun i hi => h i (by omega)); omega
theorem sm_pos {n : Nat} {f : Nat → Int} (h : 0 < sm n f) : ∃ i, i < n ∧ 0 < f i := by
  induction n with
  | zero => exact absurd h (Int.lt_irrefl 0)
  | succ n ih =>
    by_cases hn : 0 < f n
    · exact ⟨n, by omega, hn⟩
    · obtain ⟨i, hi, h2⟩ := ih (by have : 0 < sm n f + f n := h; omega)
      exact ⟨i, by omega, h2⟩
/-- All are no more, and together they are as many: each is as many. -/
theorem sm_eq_each {n : Nat} {f g : Nat → Int} (h : ∀ i, i < n → f i ≤ g i) (he : sm n g ≤ sm n f) : ∀ i, i < n → f i = g i := by
  intro i hi
  have h0 : ∀ j, j < n → 0 ≤ g j - f j := fun j hj => by have := h j hj; omega
  have h1 := sm_one_le h0 hi
  rw [sm_sub] at h1
  have := h i hi
  omega
/-- One of them is other. -/
theorem sm_turn {n : Nat} {f g : Nat → Int} {x : Nat} (hx : x < n) (h : ∀ i, i < n → i ≠ x → f i = g i) : sm n f = sm n g + (f x - g x) := by
  induction n with
  | zero => omega
  | succ n ih =>
    show sm n f + f n = sm n g + g n + (f x - g x)
    by_cases hxn : x = n
    · subst hxn
      rw [sm_congr (fun i hi => h i (by omega) (by omega))]; omega
    · rw [ih (by omega) (fun i hi => h i (by omega)), h n (by omega) (Ne.symm hxn)]; omega
theorem sm_front (n : Nat) (g : Nat → Int) : sm (n + 1) g = g 0 + sm n (fun i => g (i + 1)) := by
  induction n with
  | zero => show 0 + g 0 = g 0 + 0; omega
  | succ n ih => show sm (n + 1) g + g (n + 1) = g 0 + (sm n (fun i => g (i + 1)) + g (n + 1)); rw [ih]; omega
theorem sm_back (n : Nat) (g : Nat → Int) : sm n (fun i => g (n - 1 - i)) = sm n g := by
  induction n generalizing g with
  | zero => rfl
  | succ n ih =>
    rw [sm_front n g, ← ih (fun i => g (i + 1))]
    show sm n (fun i => g (n + 1 - 1 - i)) + g (n + 1 - 1 - n) = _
    have e : sm n (fun i => g (n + 1 - 1 - i)) = sm n (fun i => g (n - 1 - i + 1)) := sm_congr (fun i hi => by congr 1; omega)
    rw [e]
    have : n + 1 - 1 - n = 0 := by omega
    rw [this]; omega

section
variable (n : Nat) (U L E : Nat → Int)

/-- Springs that may be: U, the least, and E of each. -/
structure Sp7 : Prop where
  len : n ≤ 4
  low : ∀ i, i < n → 1 ≤ L i
  top : ∀ i, i < n → L i ≤ U i
  unit : ∀ i, i < n → U i ≤ 1048576
  e0 : ∀ i, i < n → 0 ≤ E i
  e8 : ∀ i, i < n → E i ≤ 8
  stiff : ∀ i, i < n → E i = 0 → L i = U i

/-- What one has by a through b, times b. -/
def hav (a b : Int) (i : Nat) : Int := max (b * U i - a * E i) (b * L i)
def tot (a b : Int) : Int := sm n (hav U L E a b)

/-- The least force by which they have no more than load: a through b. -/
structure IsF (load a b : Int) : Prop where
  a0 : 0 ≤ a
  b1 : 1 ≤ b
  b32 : b ≤ 32
  abig : a ≤ 4194304
  cop : ∀ k : Int, 2 ≤ k → k ∣ a → k ∣ b → False
  enough : tot n U L E a b ≤ b * load
  just : load < sm n U → tot n U L E a b = b * load
  least : ∀ c d : Int, 0 ≤ c → 1 ≤ d → tot n U L E c d ≤ d * load → a * d ≤ c * b

variable {n U L E}

theorem hav_mul {k a b : Int} (hk : 0 ≤ k) (i : Nat) : hav U L E (k * a) (k * b) i = k * hav U L E a b i := by
  unfold hav
  have e1 : k * b * U i - k * a * E i = k * (b * U i - a * E i) := by rw [Int.mul_sub, Int.mul_assoc, Int.mul_assoc]
  have e2 : k * b * L i = k * (b * L i) := Int.mul_assoc _ _ _
  rw [e1, e2]
  generalize b * U i - a * E i = x
  generalize b * L i = y
  by_cases h : x ≤ y
  · rw [Int.max_eq_right h, Int.max_eq_right (Int.mul_le_mul_of_nonneg_left h hk)]
  · rw [Int.max_eq_left (show y ≤ x by omega), Int.max_eq_left (Int.mul_le_mul_of_nonneg_left (show y ≤ x by omega) hk)]
theorem tot_mul {k a b : Int} (hk : 0 ≤ k) : tot n U L E (k * a) (k * b) = k * tot n U L E a b := by
  unfold tot
  rw [← sm_mul]
  exact sm_congr (fun i _ => hav_mul hk i)

theorem dvd_cop {b a d : Int} (h : b ∣ a * d) (hg : Int.gcd b a = 1) : b ∣ d := by
  have h1 := Int.natAbs_dvd_natAbs.2 h
  rw [Int.natAbs_mul] at h1
  exact Int.natAbs_dvd_natAbs.1 (Nat.Coprime.dvd_of_dvd_mul_left (show Nat.Coprime b.natAbs a.natAbs from hg) h1)
/-- Two numbers that have nothing in common, as two others: the same. -/
theorem cop_eq {a b c d : Int} (hb : 1 ≤ b) (hd : 1 ≤ d) (h1 : ∀ k : Int, 2 ≤ k → k ∣ a → k ∣ b → False) (h2 : ∀ k : Int, 2 ≤ k → k ∣ c → k ∣ d → False) (he : a * d = c * b) : a = c ∧ b = d := by
  have g1 : Int.gcd a b = 1 := by
    have p : 0 < Int.gcd a b := Int.gcd_pos_of_ne_zero_right a (by omega)
    by_cases q : 2 ≤ Int.gcd a b
    · exact (h1 (Int.gcd a b) (by omega) (Int.gcd_dvd_left ..) (Int.gcd_dvd_right ..)).elim
    · omega
  have g2 : Int.gcd c d = 1 := by
    have p : 0 < Int.gcd c d := Int.gcd_pos_of_ne_zero_right c (by omega)
    by_cases q : 2 ≤ Int.gcd c d
    · exact (h2 (Int.gcd c d) (by omega) (Int.gcd_dvd_left ..) (Int.gcd_dvd_right ..)).elim
    · omega
  have d1 : b ∣ d := by
    have : b ∣ a * d := ⟨c, by rw [he, Int.mul_comm]⟩
    exact dvd_cop this (by rw [Int.gcd_comm]; exact g1)
  have d2 : d ∣ b := by
    have : d ∣ c * b := ⟨a, by rw [← he, Int.mul_comm]⟩
    exact dvd_cop this (by rw [Int.gcd_comm]; exact g2)
  have hbd : b = d := Int.le_antisymm (Int.le_of_dvd (by omega) d1) (Int.le_of_dvd (by omega) d2)
  subst hbd
  exact ⟨Int.eq_of_mul_eq_mul_right (by omega) he, rfl⟩

theorem IsF.one {load a b c d : Int} (h : IsF n U L E load a b) (h' : IsF n U L E load c d) : a = c ∧ b = d :=
  cop_eq h.b1 h'.b1 h.cop h'.cop (Int.le_antisymm (h.least c d h'.a0 h'.b1 h'.enough) (h'.least a b h.a0 h.b1 h.enough))

/-- What a set of springs asks for, that has what the others leave. -/
structure Fin7 (n : Nat) (U L E : Nat → Int) (load : Int) (S : Nat → Bool) (A B : Int) : Prop where
  A0 : 0 < A
  A22 : A ≤ 4194304
  B1 : 1 ≤ B
  B32 : B ≤ 32
  isA : A = sm n (fun i => if S i then U i else L i) - load
  isB : B = sm n (fun i => if S i then E i else 0)
  all : tot n U L E A B = B * load
  least : ∀ c d : Int, 1 ≤ d → tot n U L E c d ≤ d * load → A * d ≤ c * B

theorem fin_least {load A B : Int} {S : Nat → Bool} (hA : A = sm n (fun i => if S i then U i else L i) - load) (hB : B = sm n (fun i => if S i then E i else 0)) (c d : Int) (h : tot n U L E c d ≤ d * load) : A * d ≤ c * B := by
  have h1 : sm n (fun i => d * (if S i then U i else L i) - c * (if S i then E i else 0)) ≤ tot n U L E c d := by
    refine sm_le (fun i _ => ?_)
    unfold hav
    cases S i
    · have e : c * 0 = 0 := Int.mul_zero c
      simp only [Bool.false_eq_true, if_false, e]
      omega
    · simp only [if_true]; omega
  rw [sm_sub, sm_mul, sm_mul, ← hB] at h1
  have h2 : d * sm n (fun i => if S i then U i else L i) = d * A + d * load := by rw [hA, Int.mul_sub]; omega
  rw [h2] at h1
  rw [Int.mul_comm A d]
  omega

/-- In the least numbers: the force. -/
theorem Fin7.isF {load A B a b g : Int} {S : Nat → Bool} (h : Fin7 n U L E load S A B) (hg : 1 ≤ g) (ha : A = g * a) (hb : B = g * b) (cop : ∀ k : Int, 2 ≤ k → k ∣ a → k ∣ b → False) : IsF n U L E load a b := by
  have a1 : 1 ≤ a := by
    have h1 := h.A0; rw [ha] at h1
    have := Int.pos_of_mul_pos_right h1 (by omega)
    omega
  have b1 : 1 ≤ b := by
    have h1 := h.B1; rw [hb] at h1
    have : 0 < g * b := by omega
    have := Int.pos_of_mul_pos_right this (by omega)
    omega
  have hbB : b ≤ B := by rw [hb]; have := Int.mul_le_mul_of_nonneg_right hg (show (0 : Int) ≤ b by omega); omega
  have haA : a ≤ A := by rw [ha]; have := Int.mul_le_mul_of_nonneg_right hg (show (0 : Int) ≤ a by omega); omega
  have hall := h.all
  rw [ha, hb, tot_mul (by omega), Int.mul_assoc] at hall
  have hall := Int.eq_of_mul_eq_mul_left (by omega) hall
  refine ⟨by omega, b1, by have := h.B32; omega, by have := h.A22; omega, cop, by omega, fun _ => hall, fun c d _ hd ht => ?_⟩
  have := h.least c d hd ht
  rw [ha, hb] at this
  have e1 : g * a * d = g * (a * d) := Int.mul_assoc _ _ _
  have e2 : c * (g * b) = g * (c * b) := by rw [← Int.mul_assoc, Int.mul_comm c g, Int.mul_assoc]
  rw [e1, e2] at this
  exact Int.le_of_mul_le_mul_left this (by omega)

/-- Where all fit nothing is pressed. -/
theorem isF_none {load : Int} (hs7 : Sp7 n U L E) (h : sm n U ≤ load) : IsF n U L E load 0 1 := by
  have ht : tot n U L E 0 1 = sm n U := by
    refine sm_congr (fun i hi => ?_)
    unfold hav
    have := hs7.top i hi
    have e : (0 : Int) * E i = 0 := Int.zero_mul _
    rw [e]
    omega
  refine ⟨by omega, by omega, by omega, by omega, fun k hk _ hd => ?_, by omega, fun hl => by omega, fun c d hc hd ht => ?_⟩
  · have := Int.le_of_dvd (by omega) hd; omega
  · rw [Int.zero_mul, Int.mul_one]; exact hc
end
end Go.Proofs.YtmiakknagjncpaaGreatDoor
/- The rounds of pressing: what stands behind each, and that the last one tells the least force: plain arithmetic. -/
namespace Go.Proofs.YtmiakknagjncpaaGreatDoor
section
variable {n : Nat} {U L E : Nat → Int}

def sel (S : Nat → Bool) (g : Nat → Int) (i : Nat) : Int := if S i then g i else 0
def slk (U L : Nat → Int) (i : Nat) : Int := U i - L i

/-- What stands ahead of each round: those of S give still; the others are at their least, by a force of a0 through b0, which is no more than what the round finds. -/
structure Rnd (n : Nat) (U L E : Nat → Int) (load : Int) (S : Nat → Bool) (over a0 b0 : Int) : Prop where
  pos : 0 < over
  big : over ≤ 4194304
  isO : over = sm n (fun i => if S i then U i else L i) - load
  give : ∀ i, i < n → S i = true → 0 < slk U L i
  bpos : 1 ≤ b0
  done : ∀ i, i < n → S i = false → slk U L i * b0 ≤ a0 * E i
  up : a0 * sm n (sel S E) ≤ over * b0
  room : over ≤ sm n (sel S (slk U L))

theorem sel_nonneg {S : Nat → Bool} {g : Nat → Int} {i : Nat} (h : 0 ≤ g i) : 0 ≤ sel S g i := by
  unfold sel; split <;> omega
theorem sel_le {S : Nat → Bool} {g : Nat → Int} {i : Nat} (h : 0 ≤ g i) : sel S g i ≤ g i := by
  unfold sel; split <;> omega

theorem Rnd.pull {load over a0 b0 : Int} {S : Nat → Bool} (hs : Sp7 n U L E) (h : Rnd n U L E load S over a0 b0) : 1 ≤ sm n (sel S E) ∧ sm n (sel S E) ≤ 32 := by
  have e0 : ∀ i, i < n → 0 ≤ sel S E i := fun i hi => sel_nonneg (hs.e0 i hi)
  constructor
  · obtain ⟨i, hi, h1⟩ := sm_pos (show 0 < sm n (sel S (slk U L)) by have := h.pos; have := h.room; omega)
    have hS : S i = true := by
      cases c : S i
      · unfold sel at h1; rw [c] at h1; simp at h1
      · rfl
    have hg := h.give i hi hS
    have hE : E i ≠ 0 := fun e => by have := hs.stiff i hi e; unfold slk at hg; omega
    have hE0 := hs.e0 i hi
    have := sm_one_le e0 hi
    have e : sel S E i = E i := by unfold sel; rw [hS]; rfl
    omega
  · have := sm_le (n := n) (f := sel S E) (g := fun _ => 8) (fun i hi => Int.le_trans (sel_le (hs.e0 i hi)) (hs.e8 i hi))
    rw [sm_const] at this
    have := hs.len
    omega

/-- Who is at its least by over through p. -/
def struck (U L E : Nat → Int) (S : Nat → Bool) (over p : Int) (i : Nat) : Bool := S i && decide (slk U L i * p ≤ over * E i)
def left7 (U L E : Nat → Int) (S : Nat → Bool) (over p : Int) (i : Nat) : Bool := S i && !decide (slk U L i * p ≤ over * E i)

theorem part_sum {S T : Nat → Bool} {g : Nat → Int} (h : ∀ i, T i = true → S i = true) : sm n (sel S g) = sm n (sel T g) + sm n (sel (fun i => S i && !T i) g) := by
  rw [← sm_add]
  refine sm_congr (fun i _ => ?_)
  unfold sel
  cases hT : T i
  · cases hS : S i <;> simp [hT, hS]
  · simp [h i hT, hT]

theorem given_le {over : Int} {S : Nat → Bool} (hs : Sp7 n U L E) {p : Int} (hp : p = sm n (sel S E)) :
    sm n (sel (struck U L E S over p) (slk U L)) * p ≤ over * sm n (sel (struck U L E S over p) E) ∧ sm n (sel (struck U L E S over p) E) ≤ p := by
  constructor
  · rw [Int.mul_comm, ← sm_mul, ← sm_mul]
    refine sm_le (fun i _ => ?_)
    unfold sel
    split
    · next c =>
      unfold struck at c
      rw [Bool.and_eq_true] at c
      have := of_decide_eq_true c.2
      rw [Int.mul_comm p]; exact this
    · simp
  · rw [hp]
    refine sm_le (fun i hi => ?_)
    unfold sel
    have := hs.e0 i hi
    split
    · next c =>
      unfold struck at c
      rw [Bool.and_eq_true] at c
      rw [c.1]; simp
    · split <;> omega

/-- The end: nobody is at its least who was not; or those who are give all of it. -/
theorem Rnd.fin {load over a0 b0 : Int} {S : Nat → Bool} (hs : Sp7 n U L E) (h : Rnd n U L E load S over a0 b0) {p : Int} (hp : p = sm n (sel S E))
    (hg : sm n (sel (struck U L E S over p) (slk U L)) = 0 ∨ sm n (sel (struck U L E S over p) (slk U L)) = over) : Fin7 n U L E load S over p := by
  obtain ⟨p1, p32⟩ := h.pull hs
  rw [← hp] at p1 p32
  have key : ∀ i, i < n → S i = true → over * E i ≤ slk U L i * p := by
    rcases hg with h0 | h1
    · intro i hi hS
      by_cases c : over * E i ≤ slk U L i * p
      · exact c
      · exfalso
        have hT : struck U L E S over p i = true := by unfold struck; rw [hS, decide_eq_true (by omega)]; rfl
        have := sm_one_le (n := n) (f := sel (struck U L E S over p) (slk U L)) (fun j hj => sel_nonneg (by have := hs.top j hj; unfold slk; omega)) hi
        have e : sel (struck U L E S over p) (slk U L) i = slk U L i := by unfold sel; rw [hT]; rfl
        have := h.give i hi hS
        omega
    · have g := given_le (over := over) hs hp
      rw [h1] at g
      have pE : sm n (sel (struck U L E S over p) E) = p := by
        have := g.1
        have := Int.le_of_mul_le_mul_left g.1 h.pos
        omega
      have ps := part_sum (n := n) (S := S) (T := struck U L E S over p) (g := E) (fun i hi => by unfold struck at hi; rw [Bool.and_eq_true] at hi; exact hi.1)
      rw [← hp, pE] at ps
      -- nobody else has any give: those not struck have E 0, which none of S has
      have all : ∀ i, i < n → S i = true → struck U L E S over p i = true := by
        intro i hi hS
        cases c : struck U L E S over p i
        · exfalso
          have := sm_one_le (n := n) (f := sel (fun i => S i && !struck U L E S over p i) E) (fun j hj => sel_nonneg (hs.e0 j hj)) hi
          have e : sel (fun i => S i && !struck U L E S over p i) E i = E i := by unfold sel; simp [hS, c]
          have hE0 := hs.e0 i hi
          have := hs.stiff i hi (by omega)
          have := h.give i hi hS
          unfold slk at this
          omega
        · rfl
      -- each gives just what it gives by the force, for together they do
      have eachp := sm_eq_each (n := n) (f := fun i => p * sel (struck U L E S over p) (slk U L) i) (g := fun i => over * sel (struck U L E S over p) E i) (fun i _ => by
        show p * sel _ _ i ≤ over * sel _ _ i
        unfold sel
        split
        · next c =>
          unfold struck at c
          rw [Bool.and_eq_true] at c
          have := of_decide_eq_true c.2
          rw [Int.mul_comm p]; exact this
        · simp) (by rw [sm_mul, sm_mul, h1, pE, Int.mul_comm]; exact Int.le_refl _)
      intro i hi hS
      have := eachp i hi
      simp only [sel, all i hi hS, if_true] at this
      rw [Int.mul_comm (slk U L i), this]
      exact Int.le_refl _
  have done : ∀ i, i < n → S i = false → slk U L i * p ≤ over * E i := by
    intro i hi hS
    have h1 := h.done i hi hS
    have h2 := h.up
    rw [← hp] at h2
    have hE := hs.e0 i hi
    have hb := h.bpos
    have h3 : slk U L i * b0 * p ≤ a0 * E i * p := Int.mul_le_mul_of_nonneg_right h1 (by omega)
    have h4 : a0 * p * E i ≤ over * b0 * E i := Int.mul_le_mul_of_nonneg_right h2 hE
    have e1 : slk U L i * b0 * p = b0 * (slk U L i * p) := by rw [Int.mul_comm (slk U L i), Int.mul_assoc]
    have e2 : a0 * E i * p = a0 * p * E i := by rw [Int.mul_assoc, Int.mul_comm (E i), Int.mul_assoc]
    have e3 : over * b0 * E i = b0 * (over * E i) := by rw [Int.mul_comm over, Int.mul_assoc]
    rw [e1, e2] at h3
    rw [e3] at h4
    exact Int.le_of_mul_le_mul_left (Int.le_trans h3 h4) (by omega)
  refine ⟨h.pos, h.big, p1, p32, h.isO, hp, ?_, fun c d _ ht => fin_least h.isO hp c d ht⟩
  have ht : tot n U L E over p = sm n (fun i => p * (if S i then U i else L i) - over * sel S E i) := by
    refine sm_congr (fun i hi => ?_)
    unfold hav sel
    cases c : S i
    · have := done i hi c
      unfold slk at this
      rw [Int.sub_mul, Int.mul_comm (U i), Int.mul_comm (L i)] at this
      simp only [Bool.false_eq_true, if_false, Int.mul_zero]
      omega
    · have := key i hi c
      unfold slk at this
      rw [Int.sub_mul, Int.mul_comm (U i), Int.mul_comm (L i)] at this
      simp only [if_true]
      omega
  rw [ht, sm_sub, sm_mul, sm_mul, ← hp]
  have e := h.isO
  have : sm n (fun i => if S i then U i else L i) = over + load := by omega
  rw [this, Int.mul_add, Int.mul_comm over]
  omega

/-- Else one more round: fewer are left. -/
theorem Rnd.next {load over a0 b0 : Int} {S : Nat → Bool} (hs : Sp7 n U L E) (h : Rnd n U L E load S over a0 b0) {p given : Int} (hp : p = sm n (sel S E)) (hgv : given = sm n (sel (struck U L E S over p) (slk U L))) (h0 : given ≠ 0) (h1 : given ≠ over) :
    Rnd n U L E load (left7 U L E S over p) (over - given) over p ∧ sm n (sel (left7 U L E S over p) (fun _ => 1)) < sm n (sel S (fun _ => 1)) ∧ 0 < given := by
  obtain ⟨p1, p32⟩ := h.pull hs
  rw [← hp] at p1 p32
  have g := given_le (over := over) hs hp
  rw [← hgv] at g
  have hsl : ∀ i, i < n → 0 ≤ slk U L i := fun i hi => by have := hs.top i hi; unfold slk; omega
  have g0 : 0 ≤ given := by rw [hgv]; exact sm_nonneg (fun i hi => sel_nonneg (hsl i hi))
  have gle : given ≤ over := by
    have := Int.mul_le_mul_of_nonneg_left g.2 (show 0 ≤ over by have := h.pos; omega)
    have := Int.le_trans g.1 this
    exact Int.le_of_mul_le_mul_right this (by omega)
  have hpos := h.pos
  have hT : ∀ i, struck U L E S over p i = true → S i = true := fun i hi => by unfold struck at hi; rw [Bool.and_eq_true] at hi; exact hi.1
  have hleft : ∀ i, (S i && !struck U L E S over p i) = left7 U L E S over p i := by
    intro i; unfold struck left7; cases S i <;> simp
  have psE := part_sum (n := n) (g := E) hT
  have psS := part_sum (n := n) (g := slk U L) hT
  have ps1 := part_sum (n := n) (g := fun _ => 1) hT
  have hf : (fun i => S i && !struck U L E S over p i) = left7 U L E S over p := funext hleft
  rw [hf] at psE psS ps1
  have hroom := h.room
  refine ⟨⟨by omega, by have := h.big; omega, ?_, ?_, p1, ?_, ?_, by omega⟩, ?_, by omega⟩
  · have e := h.isO
    have : sm n (fun i => if S i then U i else L i) = sm n (fun i => if left7 U L E S over p i then U i else L i) + given := by
      rw [hgv, ← sm_add]
      refine sm_congr (fun i _ => ?_)
      rw [← hleft]
      unfold sel slk
      cases hTi : struck U L E S over p i
      · cases hS : S i <;> simp
      · simp [hT i hTi]; omega
    omega
  · intro i hi hl
    unfold left7 at hl
    rw [Bool.and_eq_true] at hl
    exact h.give i hi hl.1
  · intro i hi hl
    unfold left7 at hl
    cases c : S i
    · -- it was at its least ahead of the round
      have h1 := h.done i hi c
      have h2 := h.up
      rw [← hp] at h2
      have hE := hs.e0 i hi
      have hb := h.bpos
      have h3 : slk U L i * b0 * p ≤ a0 * E i * p := Int.mul_le_mul_of_nonneg_right h1 (by omega)
      have h4 : a0 * p * E i ≤ over * b0 * E i := Int.mul_le_mul_of_nonneg_right h2 hE
      have e1 : slk U L i * b0 * p = b0 * (slk U L i * p) := by rw [Int.mul_comm (slk U L i), Int.mul_assoc]
      have e2 : a0 * E i * p = a0 * p * E i := by rw [Int.mul_assoc, Int.mul_comm (E i), Int.mul_assoc]
      have e3 : over * b0 * E i = b0 * (over * E i) := by rw [Int.mul_comm over, Int.mul_assoc]
      rw [e1, e2] at h3
      rw [e3] at h4
      exact Int.le_of_mul_le_mul_left (Int.le_trans h3 h4) (by omega)
    · rw [c] at hl
      simp at hl
      exact hl
  · rw [Int.sub_mul]
    have e : over * sm n (sel (left7 U L E S over p) E) = over * p - over * sm n (sel (struck U L E S over p) E) := by
      have q : over * p = over * sm n (sel (struck U L E S over p) E) + over * sm n (sel (left7 U L E S over p) E) := by
        rw [← Int.mul_add, ← psE, ← hp]
      omega
    rw [e]
    have := g.1
    omega
  · obtain ⟨i, hi, hgi⟩ := sm_pos (show 0 < sm n (sel (struck U L E S over p) (slk U L)) by omega)
    have hSi : struck U L E S over p i = true := by
      cases c : struck U L E S over p i
      · unfold sel at hgi; rw [c] at hgi; simp at hgi
      · rfl
    have := sm_one_le (n := n) (f := sel (struck U L E S over p) (fun _ => 1)) (fun j _ => sel_nonneg (by decide)) hi
    have e : sel (struck U L E S over p) (fun _ => 1) i = 1 := by unfold sel; rw [hSi]; rfl
    omega

/-- The first round. -/
theorem Rnd.start {load : Int} (hs : Sp7 n U L E) (hroom : sm n L ≤ load) (hover : load < sm n U) : Rnd n U L E load (fun i => decide (0 < slk U L i)) (sm n U - load) 0 1 := by
  have e : sm n (fun i => if decide (0 < slk U L i) = true then U i else L i) = sm n U := sm_congr (fun i hi => by
    have := hs.top i hi
    by_cases c : 0 < slk U L i
    · rw [decide_eq_true c]; rfl
    · rw [decide_eq_false c]; unfold slk at c; simp; omega)
  have e2 : sm n (sel (fun i => decide (0 < slk U L i)) (slk U L)) = sm n U - sm n L := by
    rw [← sm_sub]
    refine sm_congr (fun i hi => ?_)
    have := hs.top i hi
    unfold sel
    by_cases c : 0 < slk U L i
    · simp only [decide_eq_true c, if_true]; rfl
    · simp only [decide_eq_false c]; unfold slk at c; simp; omega
  have hu := sm_le (n := n) (f := U) (g := fun _ => 1048576) hs.unit
  rw [sm_const] at hu
  have := hs.len
  have hl := sm_nonneg (n := n) (f := L) (fun i hi => by have := hs.low i hi; omega)
  refine ⟨by omega, by omega, by rw [e], fun i _ h => of_decide_eq_true h, by omega, fun i hi h => ?_, by simp; omega, by rw [e2]; omega⟩
  have := of_decide_eq_false h
  rw [Int.zero_mul]
  omega
end
end Go.Proofs.YtmiakknagjncpaaGreatDoor
/- Springs as they lie; walks of package spring: within, least, slack, what tells of one, and two numbers in the least ones. -/
namespace Go.Proofs.YtmiakknagjncpaaGreatDoor
open Go.RowKit

/-- A list of springs that is read: U, Min and E of each. -/
def Sprs (w : World) (v : Value) (n : Nat) (u m e : Nat → Int) : Prop :=
  ∃ a cap, v = .slice a n cap ∧ n ≤ cap ∧ cap ≤ maxLen ∧ (a = none → cap = 0) ∧ (0 < n → ∃ b o, a = some ⟨b, o, none⟩ ∧ ∀ i, i < n → w.cell? ⟨b, o + i * 3, none⟩ = some (.int .i64 (u i)) ∧ w.cell? ⟨b, o + i * 3 + 1, none⟩ = some (.int .i64 (m i)) ∧ w.cell? ⟨b, o + i * 3 + 2, none⟩ = some (.int .i64 (e i)))
theorem Sprs.later {w w' : World} {v : Value} {n : Nat} {u m e : Nat → Int} (h : Sprs w v n u m e) (hb : Below w.heap.size w w') : Sprs w' v n u m e := by
  obtain ⟨a, cap, rfl, h1, h2, h0, h3⟩ := h
  refine ⟨a, cap, rfl, h1, h2, h0, fun hx => ?_⟩
  obtain ⟨b, o, rfl, h4⟩ := h3 hx
  exact ⟨b, o, rfl, fun i hi => ⟨cell_later hb (h4 i hi).1, cell_later hb (h4 i hi).2.1, cell_later hb (h4 i hi).2.2⟩⟩

/-- Three numbers that lie in a block. -/
def Thr (w : World) (b : Nat) (u m e : Int) : Prop := w.cell? ⟨b, 0, none⟩ = some (.int .i64 u) ∧ w.cell? ⟨b, 1, none⟩ = some (.int .i64 m) ∧ w.cell? ⟨b, 2, none⟩ = some (.int .i64 e)
theorem Thr.later {w w' : World} {b : Nat} {u m e : Int} (h : Thr w b u m e) (hb : Below w.heap.size w w') : Thr w' b u m e := ⟨cell_later hb h.1, cell_later hb h.2.1, cell_later hb h.2.2⟩
theorem Thr.new (w : World) (u m e : Int) (t : TypeId) : Thr (w.alloc (.cells #[.int .i64 u, .int .i64 m, .int .i64 e] t)) w.heap.size u m e := ⟨by simp, by simp, by simp⟩
theorem Thr.lt {w : World} {b : Nat} {u m e : Int} (h : Thr w b u m e) : b < w.heap.size := World.block_lt_of_cell? _ _ h.1
/-- Two numbers that lie in a block. -/
def Duo (w : World) (b : Nat) (x y : Int) : Prop := w.cell? ⟨b, 0, none⟩ = some (.int .i64 x) ∧ w.cell? ⟨b, 1, none⟩ = some (.int .i64 y)
theorem Duo.later {w w' : World} {b : Nat} {x y : Int} (h : Duo w b x y) (hb : Below w.heap.size w w') : Duo w' b x y := ⟨cell_later hb h.1, cell_later hb h.2⟩
theorem Duo.new (w : World) (x y : Int) (t : TypeId) : Duo (w.alloc (.cells #[.int .i64 x, .int .i64 y] t)) w.heap.size x y := ⟨by simp, by simp⟩
theorem Duo.lt {w : World} {b : Nat} {x y : Int} (h : Duo w b x y) : b < w.heap.size := World.block_lt_of_cell? _ _ h.1

/-- A spring's least. -/
def lea (u m e : Int) : Int := if e = 0 then u else m

theorem within7_any (n a b : Int) (w : World) :
    Calls Tryz.prog 41 #[.int .i64 n, .int .i64 a, .int .i64 b] w fun e w' => e = .returned (.bool (wiB n a b)) ∧ w' = w := by
  by_cases c0 : a ≤ n
  · have H : Hid (wiB n a b = decide (n ≤ b)) := by show _ = _; unfold wiB; simp [c0]
    go_enter Tryz.func41, Tryz.ntmps41
    go_wp2
    go_ret
    exact ⟨ret_b H.out.symm, rfl⟩
  · have H : Hid (wiB n a b = false) := by show _ = _; unfold wiB; simp [c0]
    go_enter Tryz.func41, Tryz.ntmps41
    go_wp2
    go_ret
    exact ⟨ret_b H.out.symm, rfl⟩

theorem least7_any (u m e : Int) (w : World) :
    Calls Tryz.prog 43 #[.agg #[.int .i64 u, .int .i64 m, .int .i64 e]] w fun r w' => r = .returned (.int .i64 (lea u m e)) ∧ Below w.heap.size w w' := by
  by_cases h : e = 0
  · have H : Hid (lea u m e = u) := by show _ = _; unfold lea; rw [if_pos h]
    go_enter Tryz.func43, Tryz.ntmps43
    go_wp2
    go_ret
    exact ⟨ret_i H.out.symm, (Below.refl _ _).alloc (Nat.le_refl _) _⟩
  · have H : Hid (lea u m e = m) := by show _ = _; unfold lea; rw [if_neg h]
    go_enter Tryz.func43, Tryz.ntmps43
    go_wp2
    go_ret
    exact ⟨ret_i H.out.symm, (Below.refl _ _).alloc (Nat.le_refl _) _⟩

theorem top7_any (u m e : Int) (w : World) :
    Calls Tryz.prog 61 #[.agg #[.int .i64 u, .int .i64 m, .int .i64 e]] w fun r w' => r = .returned (.int .i64 u) ∧ Below w.heap.size w w' := by
  go_enter Tryz.func61, Tryz.ntmps61
  go_wp2
  go_ret
  exact ⟨rfl, (Below.refl _ _).alloc (Nat.le_refl _) _⟩

set_option maxHeartbeats 1000000 in
set_option maxRecDepth 100000 in
theorem slack7_any (u m e : Int) (w : World) (h0 : 0 ≤ u - lea u m e) (h1 : u - lea u m e ≤ 1048576) :
    Calls Tryz.prog 98 #[.agg #[.int .i64 u, .int .i64 m, .int .i64 e]] w fun r w' => r = .returned (.int .i64 (u - lea u m e)) ∧ Below w.heap.size w w' := by
  have hT := Thr.new w u m e 47
  have hE : Hid (Below w.heap.size w (w.alloc (.cells #[.int .i64 u, .int .i64 m, .int .i64 e] 47))) := (Below.refl _ _).alloc (Nat.le_refl _) _
  obtain ⟨q, hq⟩ : ∃ q, lea u m e = q := ⟨_, rfl⟩
  rw [hq] at h0 h1 ⊢
  have HQ : Hid (lea u m e = q) := hq
  clear hq
  have hw : IntKind.i64.wrap (u - q) = u - q := by rw [IntKind.wrap_i64]; omega
  go_enter Tryz.func98, Tryz.ntmps98
  go_wp2_with fail
  generalize (w.alloc (.cells #[.int .i64 u, .int .i64 m, .int .i64 e] 47)) = W at *
  have s5 := hE.out.size
  have MK : Hid (∀ w' : World, Below W.heap.size W w' → (w'.cell? ⟨w.heap.size, 0, none⟩ = some (.int .i64 u) ∧ w'.cell? ⟨w.heap.size, 1, none⟩ = some (.int .i64 m) ∧ w'.cell? ⟨w.heap.size, 2, none⟩ = some (.int .i64 e)) ∧ Below W.heap.size W w') := fun w' hb => ⟨hT.later hb, hb⟩
  clear hT
  go_region_held3 (fun w' => (w'.cell? ⟨w.heap.size, 0, none⟩ = some (.int .i64 u) ∧ w'.cell? ⟨w.heap.size, 1, none⟩ = some (.int .i64 m) ∧ w'.cell? ⟨w.heap.size, 2, none⟩ = some (.int .i64 e)) ∧ Below W.heap.size W w')
    (first | exact MK.out _ (bstep (by assumption) (sBel (by assumption))) | exact MK.out _ (Below.refl _ _).drew)
    (first | (go_at_call 43; refine (least7_any _ _ _ _).mono ?_; rintro r w3 ⟨rfl, hb3⟩; rw [HQ.out]))
  all_goals
    go_wp2
    go_ret
    exact ⟨rfl, hE.out.trans ((sBel (by assumption)).mono s5)⟩

/-- Is a spring at its least by a through b? -/
def atlB (u m e a b : Int) : Bool := decide ((u - lea u m e) * b ≤ e * a)

set_option maxHeartbeats 2000000 in
set_option maxRecDepth 100000 in
theorem atleast_any (u m e a b : Int) (c : Nat) (w : World) (h0 : 0 ≤ u - lea u m e) (h1 : u - lea u m e ≤ 1048576) (e1 : 1 ≤ e) (e8 : e ≤ 8) (a0 : 0 ≤ a) (a1 : a ≤ 4194304) (b1 : 1 ≤ b) (b32 : b ≤ 32) (hD : Duo w c a b) :
    Calls Tryz.prog 108 #[.agg #[.int .i64 u, .int .i64 m, .int .i64 e], .pointer (some ⟨c, 0, none⟩)] w fun r w' => r = .returned (.bool (atlB u m e a b)) ∧ Below w.heap.size w w' := by
  have hT := Thr.new w u m e 47
  have hE : Hid (Below w.heap.size w (w.alloc (.cells #[.int .i64 u, .int .i64 m, .int .i64 e] 47))) := (Below.refl _ _).alloc (Nat.le_refl _) _
  have hD' := hD.later hE.out
  have HR : Hid (okq (u - lea u m e) e ∧ okq a b) := by
    show _ ∧ _
    unfold okq
    omega
  obtain ⟨q, hq⟩ : ∃ q, sgn ((u - lea u m e) * b) (a * e) = q := ⟨_, rfl⟩
  have HQ : Hid (sgn ((u - lea u m e) * b) (a * e) = q) := hq
  have HZ : Hid (decide (q ≤ 0) = atlB u m e a b) := by
    show _ = _
    rw [← hq]
    unfold atlB sgn
    rw [Int.mul_comm e a]
    generalize (u - lea u m e) * b = x
    generalize a * e = y
    by_cases c1 : x = y
    · simp [c1]
    · by_cases c2 : x < y
      · rw [if_neg c1, if_pos c2, decide_eq_true (show x ≤ y by omega)]; rfl
      · rw [if_neg c1, if_neg c2, decide_eq_false (show ¬ x ≤ y by omega)]; rfl
  have HS : Hid (0 ≤ u - lea u m e ∧ u - lea u m e ≤ 1048576) := ⟨h0, h1⟩
  clear hq hD h0 h1
  go_enter Tryz.func108, Tryz.ntmps108
  go_wp2_with fail
  generalize (w.alloc (.cells #[.int .i64 u, .int .i64 m, .int .i64 e] 47)) = W at *
  have s5 := hE.out.size
  have MK : Hid (∀ w' : World, Below W.heap.size W w' → (w'.cell? ⟨w.heap.size, 0, none⟩ = some (.int .i64 u) ∧ w'.cell? ⟨w.heap.size, 1, none⟩ = some (.int .i64 m) ∧ w'.cell? ⟨w.heap.size, 2, none⟩ = some (.int .i64 e) ∧ w'.cell? ⟨c, 0, none⟩ = some (.int .i64 a) ∧ w'.cell? ⟨c, 1, none⟩ = some (.int .i64 b)) ∧ Below W.heap.size W w') := fun w' hb => ⟨⟨(hT.later hb).1, (hT.later hb).2.1, (hT.later hb).2.2, (hD'.later hb).1, (hD'.later hb).2⟩, hb⟩
  clear hT hD'
  go_region_held3 (fun w' => (w'.cell? ⟨w.heap.size, 0, none⟩ = some (.int .i64 u) ∧ w'.cell? ⟨w.heap.size, 1, none⟩ = some (.int .i64 m) ∧ w'.cell? ⟨w.heap.size, 2, none⟩ = some (.int .i64 e) ∧ w'.cell? ⟨c, 0, none⟩ = some (.int .i64 a) ∧ w'.cell? ⟨c, 1, none⟩ = some (.int .i64 b)) ∧ Below W.heap.size W w')
    (first | exact MK.out _ (bstep (by assumption) (sBel (by assumption))) | exact MK.out _ (Below.refl _ _).drew)
    (first
    | (go_at_call 98; refine (slack7_any _ _ _ _ HS.out.1 HS.out.2).mono ?_; rintro r w3 ⟨rfl, hb3⟩)
    | (go_at_call 109; refine (cmp_yes _ _ _ _ _ HR.out.1.1 HR.out.1.2.1 HR.out.1.2.2.1 HR.out.1.2.2.2 HR.out.2.1 HR.out.2.2.1 HR.out.2.2.2.1 HR.out.2.2.2.2).mono ?_; rintro r w4 ⟨rfl, hb4⟩; rw [HQ.out]))
  all_goals
    go_wp2
    go_ret
    exact ⟨ret_b HZ.out, hE.out.trans ((sBel (by assumption)).mono s5)⟩

/-- How many units a spring has by a through b, rounded down. -/
def hasV (u m e a b : Int) : Int := max (u - cl (a * e) b) (lea u m e)

set_option maxHeartbeats 2000000 in
set_option maxRecDepth 100000 in
theorem has7_any (u m e a b : Int) (c : Nat) (w : World) (u0 : 0 ≤ u) (u1 : u ≤ 1048576) (e0 : 0 ≤ e) (e8 : e ≤ 8) (a0 : 0 ≤ a) (a1 : a ≤ 4194304) (b1 : 1 ≤ b) (b32 : b ≤ 32) (hD : Duo w c a b) :
    Calls Tryz.prog 66 #[.agg #[.int .i64 u, .int .i64 m, .int .i64 e], .pointer (some ⟨c, 0, none⟩)] w fun r w' => r = .returned (.int .i64 (hasV u m e a b)) ∧ Below w.heap.size w w' := by
  have hT := Thr.new w u m e 47
  have hE : Hid (Below w.heap.size w (w.alloc (.cells #[.int .i64 u, .int .i64 m, .int .i64 e] 47))) := (Below.refl _ _).alloc (Nat.le_refl _) _
  obtain ⟨d0, d1⟩ := hD.later hE.out
  have s0 := hD.lt
  have s1 : c < w.heap.size + 1 := by omega
  have p0 : 0 ≤ a * e := Int.mul_nonneg a0 e0
  have p1 : a * e ≤ 33554432 := Int.le_trans (Int.mul_le_mul_of_nonneg_left e8 a0) (by omega)
  have hw : IntKind.i64.wrap (a * e) = a * e := by rw [IntKind.wrap_i64]; omega
  have HR : Hid (okq (a * e) b) := by show _ ∧ _; omega
  obtain ⟨q, hq⟩ : ∃ q, cl (a * e) b = q := ⟨_, rfl⟩
  have HQ : Hid (cl (a * e) b = q) := hq
  have q0 : 0 ≤ q := by rw [← hq]; exact le_cl_of b1 (by rw [Int.zero_sub, Int.neg_one_mul]; omega)
  have q1 : q ≤ 33554432 := by rw [← hq]; exact cl_le_of b1 (by omega)
  have hw2 : IntKind.i64.wrap (u - q) = u - q := by rw [IntKind.wrap_i64]; omega
  obtain ⟨l, hl⟩ : ∃ l, lea u m e = l := ⟨_, rfl⟩
  have HL : Hid (lea u m e = l) := hl
  have HV : Hid (hasV u m e a b = max (u - q) l) := by show _ = _; unfold hasV; rw [hq, hl]
  clear hq hl hD
  go_enter Tryz.func66, Tryz.ntmps66
  go_wp2_with fail
  refine (ceil_yes _ _ _ HR.out.1 HR.out.2.1 HR.out.2.2.1 HR.out.2.2.2).mono ?_
  rintro r w1 ⟨rfl, hb1⟩
  rw [HQ.out]
  have hT1 := hT.later hb1
  have hE1 : Hid (Below w.heap.size w w1) := hE.out.trans (hb1.mono (by simp))
  have s2 := hE1.out.size
  clear hT hE hb1 d0 d1 hw p0 p1 HR HQ
  go_wp2_with fail
  have MK : Hid (∀ w' : World, Below w1.heap.size w1 w' → (w'.cell? ⟨w.heap.size, 0, none⟩ = some (.int .i64 u) ∧ w'.cell? ⟨w.heap.size, 1, none⟩ = some (.int .i64 m) ∧ w'.cell? ⟨w.heap.size, 2, none⟩ = some (.int .i64 e)) ∧ Below w1.heap.size w1 w') := fun w' hb => ⟨hT1.later hb, hb⟩
  clear hT1
  go_region_held3 (fun w' => (w'.cell? ⟨w.heap.size, 0, none⟩ = some (.int .i64 u) ∧ w'.cell? ⟨w.heap.size, 1, none⟩ = some (.int .i64 m) ∧ w'.cell? ⟨w.heap.size, 2, none⟩ = some (.int .i64 e)) ∧ Below w1.heap.size w1 w')
    (first | assumption | exact MK.out _ (bstep (by assumption) (sBel (by assumption))) | exact MK.out _ (Below.refl _ _).drew)
    (first | (go_at_call 43; refine (least7_any _ _ _ _).mono ?_; rintro r w3 ⟨rfl, hb3⟩; rw [HL.out]))
  all_goals go_wp2
  all_goals
    go_ret
    exact ⟨ret_i (by rw [HV.out]; omega), hE1.out.trans ((sBel (by assumption)).mono s2)⟩

theorem has_at (x y : Int) (w : World) :
    Calls Tryz.prog 46 #[.agg #[.int .i64 x, .int .i64 y]] w fun r w' => r = .returned (.func (.func 66) #[] #[.pointer (some ⟨w.heap.size, 0, none⟩)]) ∧ w' = w.alloc (.cells #[.int .i64 x, .int .i64 y] 69) := by
  go_enter Tryz.func46, Tryz.ntmps46
  go_wp2
  go_ret
  exact ⟨rfl, rfl⟩
theorem atleast_at (x y : Int) (w : World) :
    Calls Tryz.prog 99 #[.agg #[.int .i64 x, .int .i64 y]] w fun r w' => r = .returned (.func (.func 108) #[] #[.pointer (some ⟨w.heap.size, 0, none⟩)]) ∧ w' = w.alloc (.cells #[.int .i64 x, .int .i64 y] 69) := by
  go_enter Tryz.func99, Tryz.ntmps99
  go_wp2
  go_ret
  exact ⟨rfl, rfl⟩
end Go.Proofs.YtmiakknagjncpaaGreatDoor
/- A list of structs of three integers that is an argument: what it holds. -/
namespace Go.Proofs.YtmiakknagjncpaaGreatDoor
open Go.ChangeShapes Go.WideShapes Go.RowKit Go.Deep Go.Joins

theorem see_sprs {H : Type} {enc : TypeId × Value → H} {P : Program} {w : World} {base b0 : Nat} {held : Bool} {r : Reach} {t e : TypeId} {f0 f1 f2 : Field} {v : Value} {d : DataW H} {p : List MemPlace}
    (ht : P.underlying t = some (.slice e)) (he : P.underlying e = some (.struct #[f0, f1, f2])) (ce : P.cellsOf e = 3) (o0 : f0.offset = 0) (o1 : f1.offset = 1) (o2 : f2.offset = 2) (c0 : P.cellsOf f0.type = 1) (c1 : P.cellsOf f1.type = 1) (c2 : P.cellsOf f2.type = 1)
    (h0 : P.underlying f0.type = some (.int .i64)) (h1 : P.underlying f1.type = some (.int .i64)) (h2 : P.underlying f2.type = some (.int .i64)) (hv : Value.okWide P w r b0 t v) (h : DataW.Trod enc P w base (fun _ => true) held t v d p) : ∃ n u m e, Sprs w v n u m e ∧ (n = 0 ∨ ∃ es sp, d = .slice es sp ∧ es.length = n) := by
  obtain ⟨a, len, cap, rfl⟩ := okWide_slice ht hv
  obtain ⟨fuel, hf⟩ := h
  rcases open_slice ht hf with ⟨hcs, _⟩ | ⟨x, l, c, m, k, D, Pl, hcs, _, hl, hm, hmm, hdp, hx⟩
  · simp [Value.cells] at hcs
    obtain ⟨rfl, rfl, rfl⟩ := hcs
    exact ⟨0, fun _ => 0, fun _ => 0, fun _ => 0, ⟨none, 0, rfl, by simp, by simp, fun _ => rfl, fun h => by omega⟩, .inl rfl⟩
  · simp [Value.cells] at hcs
    obtain ⟨rfl, rfl, rfl⟩ := hcs
    simp only [if_true] at hmm
    subst hmm
    have each : ∀ i, i < len → ∃ q : Int × Int × Int, w.cell? (x.add (i * 3)) = some (.int .i64 q.1) ∧ w.cell? (x.add (i * 3 + 1)) = some (.int .i64 q.2.1) ∧ w.cell? (x.add (i * 3 + 2)) = some (.int .i64 q.2.2) := by
      intro i hi
      obtain ⟨cs', k1, k2⟩ := hx i (by omega)
      rw [ce] at k1
      obtain ⟨_, hlen, hcell⟩ := World.cells?_some k1
      obtain ⟨xs, kk, _, _, _, hxl, hfl⟩ := DataW.trod_struct he k2
      match xs, hxl, cs', hlen with
      | [y0, y1, y2], _, [v0, v1, v2], _ =>
        have g0 := hfl 0 f0 rfl
        have g1 := hfl 1 f1 rfl
        have g2 := hfl 2 f2 rfl
        simp [o0, o1, o2, c0, c1, c2] at g0 g1 g2
        obtain ⟨a0, e0, _, _⟩ := DataW.trod_int h0 g0
        obtain ⟨a1, e1, _, _⟩ := DataW.trod_int h1 g1
        obtain ⟨a2, e2, _, _⟩ := DataW.trod_int h2 g2
        simp at e0 e1 e2
        have q0 := hcell 0 (by omega)
        have q1 := hcell 1 (by omega)
        have q2 := hcell 2 (by omega)
        rw [add_add] at q0 q1 q2
        exact ⟨(a0, a1, a2), by simpa [e0] using q0, by simpa [e1] using q1, by simpa [e2] using q2⟩
    obtain ⟨q, hq⟩ := choose_lt each
    simp only [Prod.mk.injEq] at hdp
    refine ⟨len, fun i => (q i).1, fun i => (q i).2.1, fun i => (q i).2.2, ⟨some x, m, rfl, hl, hm, fun h => by simp at h, fun hp => ?_⟩, .inr ⟨_, _, hdp.1, by simp⟩⟩
    obtain ⟨b, off, spot⟩ := x
    have hspot : spot = none := by simpa [Addr.add] using World.cell?_spot (hq 0 hp).1
    subst hspot
    refine ⟨b, off, rfl, fun i hi => ?_⟩
    obtain ⟨k0, k1, k2⟩ := hq i hi
    rw [Go.WideShapes.add_plain] at k0 k1 k2
    exact ⟨k0, by rwa [Nat.add_assoc], by rwa [Nat.add_assoc]⟩
/-- As many as there may be: what they take lies within reach. -/
theorem sprs_sized {H : Type} {P : Program} {ts : List TypeId} {ds : List (DataW H)} (h : (DataW.weightsEach P ts ds).all (· ≤ reachBytes) = true) {t e : TypeId} {d : DataW H} {n : Nat} (ht : ts[0]? = some t) (hd : ds[0]? = some d) (hu : P.underlying t = some (.slice e)) (hb : P.bytesOf e = 24)
    (hn : n = 0 ∨ ∃ es sp, d = .slice es sp ∧ es.length = n) : n * 24 ≤ 140737488351232 := by
  rcases hn with rfl | ⟨es, sp, rfl, rfl⟩
  · omega
  · have := sized_slice h ht hd hu
    rw [hb] at this
    have e : reachBytes = 140737488351232 := rfl
    rw [e] at this
    omega
end Go.Proofs.YtmiakknagjncpaaGreatDoor
