/- What must be done of tasks at their periods, the horizon, and the first stretch that is too short: plain. -/
import Derived.Test.YteibaiflljcghaaDoorD1
namespace Go.Proofs.YteibaiflljcghaaDoor
open Go.RowKit

theorem sm_nn9 {n : Nat} {f : Nat → Int} (h : ∀ i, i < n → 0 ≤ f i) : 0 ≤ sm n f := by rw [← sm_zero n]; exact sm_le h
theorem mul_one9 {a b : Int} (ha : 1 ≤ a) (hb : 1 ≤ b) : 1 ≤ a * b := by
  have := Int.mul_le_mul_of_nonneg_left hb (show 0 ≤ a by omega)
  omega
/-- May a task at its period be? -/
def knB (f : Fx) : Bool := maySp f.sp && wiB f.p f.t f.x
def ofB9 (f : Fx) (n : Int) : Bool := knB f && wiB n 0 1099511627776
/-- How much of one must be done, at most. -/
def ofV9 (f : Fx) (n : Int) : Int := bif ofB9 f n then f.c * mostV f.m f.k (n / f.p) else 0
def allS (l : Nat) (f : Nat → Fx) (n : Int) : Int := sm l (fun i => ofV9 (f i) n)
/-- How much of all. -/
def allV9 (l : Nat) (f : Nat → Fx) (n : Int) : Int := if l ≤ 1000 then allS l f n else 0
/-- The units of each. -/
def uns (f : Nat → Fx) (i : Nat) : Int := atV (f i).sp (f i).p
def csF (f : Nat → Fx) (i : Nat) : Int := (f i).c
def knAll (l : Nat) (f : Nat → Fx) : Bool := (List.range l).all fun i => knB (f i)
/-- May they be? -/
def may9 (l : Nat) (f : Nat → Fx) : Bool := decide (l ≤ 4) && (knAll l f && decide (sm l (uns f) ≤ 983040))
def hor9 (l : Nat) (f : Nat → Fx) : Int := bif may9 l f then 16 * sm l (csF f) else 0
/-- The first stretch ahead of h in which more must be done than it is long. -/
def fst9 (g : Int → Int) : Nat → Int
  | 0 => 0
  | h + 1 => if fst9 g h = 0 then (if 1 ≤ h ∧ (h : Int) < g h then h else 0) else fst9 g h
def first9 (l : Nat) (f : Nat → Fx) : Int := fst9 (allV9 l f) (hor9 l f).toNat
def tst9 (l : Nat) (f : Nat → Fx) : Bool := may9 l f && decide (first9 l f = 0)

theorem knAll_of {l : Nat} {f : Nat → Fx} (h : knAll l f = true) {i : Nat} (hi : i < l) : knB (f i) = true := by
  unfold knAll at h; rw [List.all_eq_true] at h; exact h i (List.mem_range.2 hi)
theorem knAll_yes {l : Nat} {f : Nat → Fx} (h : ∀ i, i < l → knB (f i) = true) : knAll l f = true := by
  unfold knAll; rw [List.all_eq_true]; exact fun i hi => h i (List.mem_range.1 hi)
theorem knAll_no {l : Nat} {f : Nat → Fx} {i : Nat} (hi : i < l) (h : knB (f i) = false) : knAll l f = false := by
  cases hk : knAll l f with
  | false => rfl
  | true => rw [knAll_of hk hi] at h; cases h
theorem may9_facts {l : Nat} {f : Nat → Fx} (h : may9 l f = true) : l ≤ 4 ∧ knAll l f = true ∧ sm l (uns f) ≤ 983040 := by
  unfold may9 at h
  rw [Bool.and_eq_true, Bool.and_eq_true] at h
  exact ⟨of_decide_eq_true h.1, h.2.1, of_decide_eq_true h.2.2⟩
theorem may9_yes {l : Nat} {f : Nat → Fx} (h1 : l ≤ 4) (h2 : knAll l f = true) (h3 : sm l (uns f) ≤ 983040) : may9 l f = true := by
  unfold may9; rw [decide_eq_true h1, h2, decide_eq_true h3]; rfl
theorem may9_long {l : Nat} {f : Nat → Fx} (h : ¬ l ≤ 4) : may9 l f = false := by unfold may9; rw [decide_eq_false h]; rfl
theorem may9_kn {l : Nat} {f : Nat → Fx} (h : knAll l f = false) : may9 l f = false := by unfold may9; rw [h]; simp
theorem hor9_no {l : Nat} {f : Nat → Fx} (h : may9 l f = false) : hor9 l f = 0 := by unfold hor9; rw [h]; rfl
theorem hor9_yes {l : Nat} {f : Nat → Fx} (h : may9 l f = true) : hor9 l f = 16 * sm l (csF f) := by unfold hor9; rw [h]; rfl

theorem kn_facts {f : Fx} (h : knB f = true) : maySp f.sp = true ∧ 1 ≤ f.c ∧ f.c ≤ 6 ∧ f.c ≤ f.t ∧ f.t ≤ f.p ∧ f.p ≤ f.x ∧ f.x ≤ 48 ∧ 1 ≤ f.m ∧ f.m ≤ f.k ∧ f.k ≤ 6 := by
  unfold knB at h
  rw [Bool.and_eq_true] at h
  obtain ⟨p0, p1⟩ := of_decide_eq_true h.2
  obtain ⟨c0, c1, f2, f3, f4, ⟨m0, m1, k1⟩, _⟩ := may_facts h.1
  exact ⟨h.1, c0, c1, f2, p0, p1, f4, m0, m1, k1⟩
theorem of9_no {f : Fx} {n : Int} (h : ofB9 f n = false) : ofV9 f n = 0 := by unfold ofV9; rw [h]; rfl
theorem of9_yes {f : Fx} {n : Int} (h : knB f = true) (n0 : 0 ≤ n) (n1 : n ≤ 1099511627776) : ofV9 f n = f.c * du f.m f.k (n / f.p) := by
  obtain ⟨_, c0, c1, c2, p0, p1, x1, m0, m1, k1⟩ := kn_facts h
  have hw : wiB n 0 1099511627776 = true := decide_eq_true ⟨n0, n1⟩
  have hb : ofB9 f n = true := by unfold ofB9; rw [h, hw]; rfl
  have hd : 0 ≤ n / f.p := Int.ediv_nonneg n0 (by omega)
  have hd1 : n / f.p ≤ n := Int.ediv_le_self _ n0
  unfold ofV9
  rw [hb, mostV_in m0 m1 k1 hd (by omega)]; rfl
theorem du_self {m k n : Int} (m0 : 1 ≤ m) (mk : m ≤ k) (n0 : 0 ≤ n) : du m k n ≤ n := cl_le_of (by omega) (Int.mul_le_mul_of_nonneg_left mk n0)
theorem du_mono9 {m k a b : Int} (m0 : 1 ≤ m) (mk : m ≤ k) (h : a ≤ b) : du m k a ≤ du m k b := cl_mono6 (by omega) (Int.mul_le_mul_of_nonneg_right h (by omega))
theorem of_bd (f : Fx) (n : Int) : 0 ≤ ofV9 f n ∧ ofV9 f n ≤ 1099511627776 ∧ (0 ≤ n → ofV9 f n ≤ n) := by
  cases hb : ofB9 f n with
  | false => rw [of9_no hb]; omega
  | true =>
    unfold ofB9 at hb
    rw [Bool.and_eq_true] at hb
    obtain ⟨n0, n1⟩ := of_decide_eq_true hb.2
    rw [of9_yes hb.1 n0 n1]
    obtain ⟨_, c0, c1, c2, p0, p1, x1, m0, m1, k1⟩ := kn_facts hb.1
    have hd : 0 ≤ n / f.p := Int.ediv_nonneg n0 (by omega)
    have d0 := du_nonneg m0 m1 k1 hd
    have d1 := du_self m0 m1 hd
    have h0 : 0 ≤ f.c * du f.m f.k (n / f.p) := Int.mul_nonneg (by omega) d0
    have h1 : f.c * du f.m f.k (n / f.p) ≤ f.p * (n / f.p) := Int.mul_le_mul (by omega) d1 d0 (by omega)
    have h2 : n / f.p * f.p ≤ n := Int.ediv_mul_le _ (by omega)
    rw [Int.mul_comm] at h2
    exact ⟨h0, by omega, fun _ => by omega⟩
theorem allS_bd (l : Nat) (f : Nat → Fx) (n : Int) : 0 ≤ allS l f n ∧ allS l f n ≤ l * 1099511627776 := by
  refine ⟨sm_nn9 fun i _ => (of_bd (f i) n).1, ?_⟩
  rw [← sm_const]
  exact sm_le fun i _ => (of_bd (f i) n).2.1
theorem of_mono {f : Fx} {a b : Int} (h0 : 0 ≤ a) (h : a ≤ b) (h1 : b ≤ 1099511627776) : ofV9 f a ≤ ofV9 f b := by
  cases hk : knB f with
  | false =>
    have e : ∀ n, ofV9 f n = 0 := fun n => of9_no (by unfold ofB9; rw [hk]; rfl)
    rw [e, e]; exact Int.le_refl _
  | true =>
    rw [of9_yes hk h0 (by omega), of9_yes hk (by omega) h1]
    obtain ⟨_, c0, c1, c2, p0, p1, x1, m0, m1, k1⟩ := kn_facts hk
    exact Int.mul_le_mul_of_nonneg_left (du_mono9 m0 m1 (Int.ediv_le_ediv (by omega) h)) (by omega)
theorem all_mono {l : Nat} {f : Nat → Fx} {a b : Int} (h0 : 0 ≤ a) (h : a ≤ b) (h1 : b ≤ 1099511627776) : allS l f a ≤ allS l f b := sm_le fun _ _ => of_mono h0 h h1
/-- The same task at another period. -/
def Fx.per (f : Fx) (p : Int) : Fx := ⟨f.c, f.t, f.x, f.m, f.k, f.e, p⟩
theorem kn_per {f : Fx} {p : Int} (h : knB f = true) (h0 : f.p ≤ p) (h1 : p ≤ f.x) : knB (f.per p) = true := by
  obtain ⟨hs, c0, c1, c2, p0, p1, x1, m0, m1, k1⟩ := kn_facts h
  unfold knB wiB
  rw [show (f.per p).sp = f.sp from rfl, hs]
  show decide (f.t ≤ p ∧ p ≤ f.x) = true
  exact decide_eq_true ⟨by omega, h1⟩
theorem div_anti {n p q : Int} (n0 : 0 ≤ n) (p0 : 1 ≤ p) (h : p ≤ q) : n / q ≤ n / p := by
  have h1 : n / q * q ≤ n := Int.ediv_mul_le _ (by omega)
  have h2 : 0 ≤ n / q := Int.ediv_nonneg n0 (by omega)
  have h3 : n / q * p ≤ n / q * q := Int.mul_le_mul_of_nonneg_left h h2
  exact (Int.le_ediv_iff_mul_le (by omega)).2 (by omega)
theorem of_per {f : Fx} {p n : Int} (h : knB f = true) (h0 : f.p ≤ p) (h1 : p ≤ f.x) (n0 : 0 ≤ n) (n1 : n ≤ 1099511627776) : ofV9 (f.per p) n ≤ ofV9 f n := by
  rw [of9_yes h n0 n1, of9_yes (kn_per h h0 h1) n0 n1]
  obtain ⟨hs, c0, c1, c2, p0, p1, x1, m0, m1, k1⟩ := kn_facts h
  exact Int.mul_le_mul_of_nonneg_left (du_mono9 m0 m1 (div_anti n0 (by omega) h0)) (show 0 ≤ f.c by omega)
theorem un_per {f : Fx} {p : Int} (h : knB f = true) (h0 : f.p ≤ p) (h1 : p ≤ f.x) : atV (f.per p).sp (f.per p).p ≤ atV f.sp f.p := by
  obtain ⟨hs, c0, c1, c2, p0, p1, x1, m0, m1, k1⟩ := kn_facts h
  rw [show (f.per p).sp = f.sp from rfl, show (f.per p).p = p from rfl, atV_yes hs (show f.sp.t ≤ p by show f.t ≤ p; omega) h1, atV_yes hs p0 p1]
  have e1 : 1 ≤ f.sp.c * f.sp.m := mul_one9 c0 m0
  refine cl_anti (by omega) ?_ (Int.mul_le_mul_of_nonneg_left h0 (by show 0 ≤ f.k; omega))
  exact mul_one9 (show 1 ≤ f.k by omega) (show 1 ≤ f.p by omega)
/-- The same task, all jobs of which are mandatory. -/
def Fx.full (f : Fx) : Fx := ⟨f.c, f.t, f.x, f.k, f.k, f.e, f.p⟩
theorem kn_full {f : Fx} (h : knB f = true) : knB f.full = true := by
  have h' := h
  unfold knB at h' ⊢
  rw [Bool.and_eq_true] at h'
  rw [Bool.and_eq_true]
  refine ⟨?_, h'.2⟩
  have hf := h'.1
  rw [maySp_eq] at hf ⊢
  have := of_decide_eq_true hf
  refine decide_eq_true ?_
  simp only [Fx.sp, Fx.full] at this ⊢
  omega
theorem of_full {f : Fx} {n : Int} (n0 : 0 ≤ n) (n1 : n ≤ 1099511627776) : ofV9 f n ≤ ofV9 f.full n := by
  cases hk : knB f with
  | false =>
    have e : ofV9 f n = 0 := of9_no (by unfold ofB9; rw [hk]; rfl)
    rw [e]; exact (of_bd f.full n).1
  | true =>
    rw [of9_yes hk n0 n1, of9_yes (kn_full hk) n0 n1]
    obtain ⟨hs, c0, c1, c2, p0, p1, x1, m0, m1, k1⟩ := kn_facts hk
    have hd : 0 ≤ n / f.p := Int.ediv_nonneg n0 (by omega)
    exact Int.mul_le_mul_of_nonneg_left (cl_mono6 (show 1 ≤ f.k by omega) (Int.mul_le_mul_of_nonneg_left m1 hd)) (show 0 ≤ f.c by omega)

/-- What must be done of one is no more than its units by the stretch, and one job. -/
theorem of_units {f : Fx} {n : Int} (h : knB f = true) (n0 : 0 ≤ n) (n1 : n ≤ 1099511627776) : 1048576 * ofV9 f n ≤ n * atV f.sp f.p + 1048576 * f.c := by
  rw [of9_yes h n0 n1]
  obtain ⟨hs, c0, c1, c2, p0, p1, x1, m0, m1, k1⟩ := kn_facts h
  rw [atV_yes hs p0 p1]
  have hd : 0 ≤ n / f.p := Int.ediv_nonneg n0 (by omega)
  have q1 : n / f.p * f.p ≤ n := Int.ediv_mul_le _ (by omega)
  have hkp : 1 ≤ f.k * f.p := mul_one9 (by omega) (by omega)
  have u1 : f.c * f.m * 1048576 ≤ cl (f.c * f.m * 1048576) (f.k * f.p) * (f.k * f.p) := cl_ge hkp
  have d1 : (du f.m f.k (n / f.p) - 1) * f.k < n / f.p * f.m := cl_lt (a := n / f.p * f.m) (show 1 ≤ f.k by omega)
  show 1048576 * (f.c * du f.m f.k (n / f.p)) ≤ n * cl (f.c * f.m * 1048576) (f.k * f.p) + 1048576 * f.c
  generalize cl (f.c * f.m * 1048576) (f.k * f.p) = u at *
  generalize du f.m f.k (n / f.p) = d at *
  generalize n / f.p = q at *
  have a1 : 1048576 * f.c * (d - 1) * (f.k * f.p) ≤ 1048576 * f.c * f.m * (q * f.p) := by
    have e1 : 1048576 * f.c * (d - 1) * (f.k * f.p) = ((d - 1) * f.k) * (1048576 * f.c * f.p) := by ac_rfl
    have e2 : 1048576 * f.c * f.m * (q * f.p) = (q * f.m) * (1048576 * f.c * f.p) := by ac_rfl
    rw [e1, e2]
    exact Int.mul_le_mul_of_nonneg_right (by omega) (Int.mul_nonneg (by omega) (by omega))
  have a2 : 1048576 * f.c * f.m * (q * f.p) ≤ 1048576 * f.c * f.m * n := Int.mul_le_mul_of_nonneg_left q1 (Int.mul_nonneg (by omega) (by omega))
  have a3 : 1048576 * f.c * f.m * n ≤ (n * u) * (f.k * f.p) := by
    have e1 : 1048576 * f.c * f.m * n = (f.c * f.m * 1048576) * n := by ac_rfl
    have e2 : (n * u) * (f.k * f.p) = (u * (f.k * f.p)) * n := by ac_rfl
    rw [e1, e2]
    exact Int.mul_le_mul_of_nonneg_right u1 n0
  have a4 : 1048576 * f.c * (d - 1) ≤ n * u := Int.le_of_mul_le_mul_right (Int.le_trans a1 (Int.le_trans a2 a3)) (by omega)
  have e3 : 1048576 * f.c * (d - 1) = 1048576 * (f.c * d) - 1048576 * f.c := by rw [Int.mul_sub, Int.mul_one, Int.mul_assoc]
  omega
/-- From the horizon on no stretch is too short. -/
theorem beyond {l : Nat} {f : Nat → Fx} {n : Int} (h : may9 l f = true) (hn : hor9 l f ≤ n) (n1 : n ≤ 1099511627776) : allS l f n ≤ n := by
  obtain ⟨l4, hk, hu⟩ := may9_facts h
  rw [hor9_yes h] at hn
  have hc : 0 ≤ sm l (csF f) := sm_nn9 fun i hi => by have := kn_facts (knAll_of hk hi); unfold csF; omega
  have n0 : 0 ≤ n := by omega
  have h1 : sm l (fun i => 1048576 * ofV9 (f i) n) ≤ sm l (fun i => n * uns f i + 1048576 * csF f i) := sm_le fun i hi => of_units (knAll_of hk hi) n0 n1
  rw [sm_mul, sm_add, sm_mul, sm_mul] at h1
  have h2 : n * sm l (uns f) ≤ n * 983040 := Int.mul_le_mul_of_nonneg_left hu n0
  unfold allS
  generalize sm l (fun i => ofV9 (f i) n) = a at *
  generalize n * sm l (uns f) = b at *
  omega

/-- What the first stretch is that is too short. -/
def IsFst (g : Int → Int) (h r : Int) : Prop := (r = 0 ∧ ∀ i, 1 ≤ i → i < h → g i ≤ i) ∨ (1 ≤ r ∧ r < h ∧ r < g r ∧ ∀ i, 1 ≤ i → i < r → g i ≤ i)
theorem IsFst.unique {g : Int → Int} {h r s : Int} (hr : IsFst g h r) (hs : IsFst g h s) : r = s := by
  rcases hr with ⟨rfl, h1⟩ | ⟨r0, r1, r2, r3⟩ <;> rcases hs with ⟨rfl, h2⟩ | ⟨s0, s1, s2, s3⟩
  · rfl
  · have := h1 s s0 s1; omega
  · have := h2 r r0 r1; omega
  · by_cases c : r < s
    · have := s3 r r0 c; omega
    · by_cases c' : s < r
      · have := r3 s s0 c'; omega
      · omega
theorem fst9_is (g : Int → Int) (h : Nat) : IsFst g h (fst9 g h) := by
  induction h with
  | zero => exact .inl ⟨rfl, fun i _ _ => by omega⟩
  | succ h ih =>
    unfold fst9
    by_cases c : fst9 g h = 0
    · rw [if_pos c]
      have h0 : ∀ i, 1 ≤ i → i < (h : Int) → g i ≤ i := by
        rcases ih with ⟨_, h1⟩ | ⟨r0, _⟩
        · exact h1
        · omega
      by_cases c1 : 1 ≤ h ∧ (h : Int) < g h
      · rw [if_pos c1]
        exact .inr ⟨by omega, by omega, c1.2, h0⟩
      · rw [if_neg c1]
        refine .inl ⟨rfl, fun i i0 i1 => ?_⟩
        by_cases c2 : i = h
        · subst c2; omega
        · exact h0 i i0 (by omega)
    · rw [if_neg c]
      rcases ih with ⟨h0, _⟩ | ⟨r0, r1, r2, r3⟩
      · exact absurd h0 c
      · exact .inr ⟨r0, by omega, r2, r3⟩
theorem hor9_nonneg (l : Nat) (f : Nat → Fx) : 0 ≤ hor9 l f ∧ hor9 l f ≤ 384 := by
  cases h : may9 l f with
  | false => rw [hor9_no h]; omega
  | true =>
    rw [hor9_yes h]
    obtain ⟨l4, hk, hu⟩ := may9_facts h
    have hc : 0 ≤ sm l (csF f) := sm_nn9 fun i hi => by have := kn_facts (knAll_of hk hi); unfold csF; omega
    have hc1 : sm l (csF f) ≤ sm l (fun _ => 6) := sm_le fun i hi => by have := kn_facts (knAll_of hk hi); unfold csF; omega
    rw [sm_const] at hc1
    omega
theorem first9_is (l : Nat) (f : Nat → Fx) : IsFst (allV9 l f) (hor9 l f) (first9 l f) := by
  have h0 := (hor9_nonneg l f).1
  have := fst9_is (allV9 l f) (hor9 l f).toNat
  rw [show (((hor9 l f).toNat : Nat) : Int) = hor9 l f by omega] at this
  exact this
theorem first9_eq {l : Nat} {f : Nat → Fx} {r : Int} (h : IsFst (allV9 l f) (hor9 l f) r) : first9 l f = r := (first9_is l f).unique h
theorem all9_in {l : Nat} {f : Nat → Fx} {n : Int} (h : l ≤ 1000) : allV9 l f n = allS l f n := by unfold allV9; rw [if_pos h]
theorem tst_iff {l : Nat} {f : Nat → Fx} : tst9 l f = true ↔ may9 l f = true ∧ ∀ n, 0 ≤ n → n ≤ 1099511627776 → allS l f n ≤ n := by
  unfold tst9
  rw [Bool.and_eq_true, decide_eq_true_eq]
  constructor
  · rintro ⟨h1, h2⟩
    refine ⟨h1, fun n n0 n1 => ?_⟩
    have l4 := (may9_facts h1).1
    rcases first9_is l f with ⟨_, h3⟩ | ⟨r0, _⟩
    · by_cases c : hor9 l f ≤ n
      · exact beyond h1 c n1
      · by_cases c1 : 1 ≤ n
        · rw [← all9_in (show l ≤ 1000 by omega)]; exact h3 n c1 (by omega)
        · obtain rfl : n = 0 := by omega
          have : allS l f 0 ≤ sm l (fun _ => 0) := sm_le fun i _ => (of_bd (f i) 0).2.2 (Int.le_refl _)
          rw [sm_zero] at this; exact this
    · omega
  · rintro ⟨h1, h2⟩
    refine ⟨h1, ?_⟩
    have l4 := (may9_facts h1).1
    have hh := (hor9_nonneg l f).2
    rcases first9_is l f with ⟨h3, _⟩ | ⟨r0, r1, r2, _⟩
    · exact h3
    · rw [all9_in (show l ≤ 1000 by omega)] at r2
      have := h2 _ (show 0 ≤ first9 l f by omega) (by omega)
      omega
end Go.Proofs.YteibaiflljcghaaDoor
