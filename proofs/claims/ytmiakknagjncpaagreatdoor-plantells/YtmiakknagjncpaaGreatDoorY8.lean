/- Texts that belong together, one behind the other: D2, D3, D4, D5, D6, D7, D8. -/
import Derived.Test.YtmiakknagjncpaaGreatDoorY7
import Derived.Deep.RegionHeld3
import Derived.WalkMore
import Derived.ScopeJumps
import Derived.BigQuiet
/- What must be done of tasks at their periods, the horizon, and the first stretch that is too short: plain. -/
namespace Go.Proofs.YtmiakknagjncpaaGreatDoor
open Go.RowKit

theorem sm_nn9 {n : Nat} {f : Nat → Int} (h : ∀ i, i < n → 0 ≤ f i) : 0 ≤ sm n f := by rw [← sm_zero n]; exact sm_le h
theorem mul_one9 {a b : Int} (ha : 1 ≤ a) (hb : 1 ≤ b) : 1 ≤ a * b := by
  have := Int.mul_le_mul_of_nonneg_left hb (show 0 ≤ a by omega)
  omega
/-- May a task at its period be? -/
def knB (f : Fx) : Bool := maySp f.sp && wiB f.p f.t f.x
def ofB9 (f : Fx) (n : Int) : Bool := knB f && wiB n 0 1099511627776
/-- How much of one must be done, at most. -/
def ofV9 (f : Fx) (n : Int) : Int := bif ofB9 f n then f.c * mostV f.m f.k (n / f.p) else 0
def allS (l : Nat) (f : Nat → Fx) (n : Int) : Int := sm l (fun i => ofV9 (f i) n)
/-- How much of all. -/
def allV9 (l : Nat) (f : Nat → Fx) (n : Int) : Int := if l ≤ 1000 then allS l f n else 0
/-- The units of each. -/
def uns (f : Nat → Fx) (i : Nat) : Int := atV (f i).sp (f i).p
def csF (f : Nat → Fx) (i : Nat) : Int := (f i).c
def knAll (l : Nat) (f : Nat → Fx) : Bool := (List.range l).all fun i => knB (f i)
/-- May they be? -/
def may9 (l : Nat) (f : Nat → Fx) : Bool := decide (l ≤ 4) && (knAll l f && decide (sm l (uns f) ≤ 983040))
def hor9 (l : Nat) (f : Nat → Fx) : Int := bif may9 l f then 16 * sm l (csF f) else 0
/-- The first stretch ahead of h in which more must be done than it is long. -/
def fst9 (g : Int → Int) : Nat → Int
  | 0 => 0
  | h + 1 => if fst9 g h = 0 then (if 1 ≤ h ∧ (h : Int) < g h then h else 0) else fst9 g h
def first9 (l : Nat) (f : Nat → Fx) : Int := fst9 (allV9 l f) (hor9 l f).toNat
def tst9 (l : Nat) (f : Nat → Fx) : Bool := may9 l f && decide (first9 l f = 0)

theorem knAll_of {l : Nat} {f : Nat → Fx} (h : knAll l f = true) {i : Nat} (hi : i < l) : knB (f i) = true := by
  unfold knAll at h; rw [List.all_eq_true] at h; exact h i (List.mem_range.2 hi)
theorem knAll_yes {l : Nat} {f : Nat → Fx} (h : ∀ i, i < l → knB (f i) = true) : knAll l f = true := by
  unfold knAll; rw [List.all_eq_true]; exact fun i hi => h i (List.mem_range.1 hi)
theorem knAll_no {l : Nat} {f : Nat → Fx} {i : Nat} (hi : i < l) (h : knB (f i) = false) : knAll l f = false := by
  cases hk : knAll l f with
  | false => rfl
  | true => rw [knAll_of hk hi] at h; cases h
theorem may9_facts {l : Nat} {f : Nat → Fx} (h : may9 l f = true) : l ≤ 4 ∧ knAll l f = true ∧ sm l (uns f) ≤ 983040 := by
  unfold may9 at h
  rw [Bool.and_eq_true, Bool.and_eq_true] at h
  exact ⟨of_decide_eq_true h.1, h.2.1, of_decide_eq_true h.2.2⟩
theorem may9_yes {l : Nat} {f : Nat → Fx} (h1 : l ≤ 4) (h2 : knAll l f = true) (h3 : sm l (uns f) ≤ 983040) : may9 l f = true := by
  unfold may9; rw [decide_eq_true h1, h2, decide_eq_true h3]; rfl
theorem may9_long {l : Nat} {f : Nat → Fx} (h : ¬ l ≤ 4) : may9 l f = false := by unfold may9; rw [decide_eq_false h]; rfl
theorem may9_kn {l : Nat} {f : Nat → Fx} (h : knAll l f = false) : may9 l f = false := by unfold may9; rw [h]; simp
theorem hor9_no {l : Nat} {f : Nat → Fx} (h : may9 l f = false) : hor9 l f = 0 := by unfold hor9; rw [h]; rfl
theorem hor9_yes {l : Nat} {f : Nat → Fx} (h : may9 l f = true) : hor9 l f = 16 * sm l (csF f) := by unfold hor9; rw [h]; rfl

theorem kn_facts {f : Fx} (h : knB f = true) : maySp f.sp = true ∧ 1 ≤ f.c ∧ f.c ≤ 6 ∧ f.c ≤ f.t ∧ f.t ≤ f.p ∧ f.p ≤ f.x ∧ f.x ≤ 48 ∧ 1 ≤ f.m ∧ f.m ≤ f.k ∧ f.k ≤ 6 := by
  unfold knB at h
  rw [Bool.and_eq_true] at h
  obtain ⟨p0, p1⟩ := of_decide_eq_true h.2
  obtain ⟨c0, c1, f2, f3, f4, ⟨m0, m1, k1⟩, _⟩ := may_facts h.1
  exact ⟨h.1, c0, c1, f2, p0, p1, f4, m0, m1, k1⟩
theorem of9_no {f : Fx} {n : Int} (h : ofB9 f n = false) : ofV9 f n = 0 := by unfold ofV9; rw [h]; rfl
theorem of9_yes {f : Fx} {n : Int} (h : knB f = true) (n0 : 0 ≤ n) (n1 : n ≤ 1099511627776) : ofV9 f n = f.c * du f.m f.k (n / f.p) := by
  obtain ⟨_, c0, c1, c2, p0, p1, x1, m0, m1, k1⟩ := kn_facts h
  have hw : wiB n 0 1099511627776 = true := decide_eq_true ⟨n0, n1⟩
  have hb : ofB9 f n = true := by unfold ofB9; rw [h, hw]; rfl
  have hd : 0 ≤ n / f.p := Int.ediv_nonneg n0 (by omega)
  have hd1 : n / f.p ≤ n := Int.ediv_le_self _ n0
  unfold ofV9
  rw [hb, mostV_in m0 m1 k1 hd (by omega)]; rfl
theorem du_self {m k n : Int} (m0 : 1 ≤ m) (mk : m ≤ k) (n0 : 0 ≤ n) : du m k n ≤ n := cl_le_of (by omega) (Int.mul_le_mul_of_nonneg_left mk n0)
theorem du_mono9 {m k a b : Int} (m0 : 1 ≤ m) (mk : m ≤ k) (h : a ≤ b) : du m k a ≤ du m k b := cl_mono6 (by omega) (Int.mul_le_mul_of_nonneg_right h (by omega))
theorem of_bd (f : Fx) (n : Int) : 0 ≤ ofV9 f n ∧ ofV9 f n ≤ 1099511627776 ∧ (0 ≤ n → ofV9 f n ≤ n) := by
  cases hb : ofB9 f n with
  | false => rw [of9_no hb]; omega
  | true =>
    unfold ofB9 at hb
    rw [Bool.and_eq_true] at hb
    obtain ⟨n0, n1⟩ := of_decide_eq_true hb.2
    rw [of9_yes hb.1 n0 n1]
    obtain ⟨_, c0, c1, c2, p0, p1, x1, m0, m1, k1⟩ := kn_facts hb.1
    have hd : 0 ≤ n / f.p := Int.ediv_nonneg n0 (by omega)
    have d0 := du_nonneg m0 m1 k1 hd
    have d1 := du_self m0 m1 hd
    have h0 : 0 ≤ f.c * du f.m f.k (n / f.p) := Int.mul_nonneg (by omega) d0
    have h1 : f.c * du f.m f.k (n / f.p) ≤ f.p * (n / f.p) := Int.mul_le_mul (by omega) d1 d0 (by omega)
    have h2 : n / f.p * f.p ≤ n := Int.ediv_mul_le _ (by omega)
    rw [Int.mul_comm] at h2
    exact ⟨h0, by omega, fun _ => by omega⟩
/-- The same task at another period. -/
def Fx.per (f : Fx) (p : Int) : Fx := ⟨f.c, f.t, f.x, f.m, f.k, f.e, p⟩
theorem kn_per {f : Fx} {p : Int} (h : knB f = true) (h0 : f.p ≤ p) (h1 : p ≤ f.x) : knB (f.per p) = true := by
  obtain ⟨hs, c0, c1, c2, p0, p1, x1, m0, m1, k1⟩ := kn_facts h
  unfold knB wiB
  rw [show (f.per p).sp = f.sp from rfl, hs]
  show decide (f.t ≤ p ∧ p ≤ f.x) = true
  exact decide_eq_true ⟨by omega, h1⟩
theorem div_anti {n p q : Int} (n0 : 0 ≤ n) (p0 : 1 ≤ p) (h : p ≤ q) : n / q ≤ n / p := by
  have h1 : n / q * q ≤ n := Int.ediv_mul_le _ (by omega)
  have h2 : 0 ≤ n / q := Int.ediv_nonneg n0 (by omega)
  have h3 : n / q * p ≤ n / q * q := Int.mul_le_mul_of_nonneg_left h h2
  exact (Int.le_ediv_iff_mul_le (by omega)).2 (by omega)
theorem of_per {f : Fx} {p n : Int} (h : knB f = true) (h0 : f.p ≤ p) (h1 : p ≤ f.x) (n0 : 0 ≤ n) (n1 : n ≤ 1099511627776) : ofV9 (f.per p) n ≤ ofV9 f n := by
  rw [of9_yes h n0 n1, of9_yes (kn_per h h0 h1) n0 n1]
  obtain ⟨hs, c0, c1, c2, p0, p1, x1, m0, m1, k1⟩ := kn_facts h
  exact Int.mul_le_mul_of_nonneg_left (du_mono9 m0 m1 (div_anti n0 (by omega) h0)) (show 0 ≤ f.c by omega)
theorem un_per {f : Fx} {p : Int} (h : knB f = true) (h0 : f.p ≤ p) (h1 : p ≤ f.x) : atV (f.per p).sp (f.per p).p ≤ atV f.sp f.p := by
  obtain ⟨hs, c0, c1, c2, p0, p1, x1, m0, m1, k1⟩ := kn_facts h
  rw [show (f.per p).sp = f.sp from rfl, show (f.per p).p = p from rfl, atV_yes hs (show f.sp.t ≤ p by show f.t ≤ p; omega) h1, atV_yes hs p0 p1]
  have e1 : 1 ≤ f.sp.c * f.sp.m := mul_one9 c0 m0
  refine cl_anti (by omega) ?_ (Int.mul_le_mul_of_nonneg_left h0 (by show 0 ≤ f.k; omega))
  exact mul_one9 (show 1 ≤ f.k by omega) (show 1 ≤ f.p by omega)
/-- What must be done of one is no more than its units by the stretch, and one job. -/
theorem of_units {f : Fx} {n : Int} (h : knB f = true) (n0 : 0 ≤ n) (n1 : n ≤ 1099511627776) : 1048576 * ofV9 f n ≤ n * atV f.sp f.p + 1048576 * f.c := by
  rw [of9_yes h n0 n1]
  obtain ⟨hs, c0, c1, c2, p0, p1, x1, m0, m1, k1⟩ := kn_facts h
  rw [atV_yes hs p0 p1]
  have hd : 0 ≤ n / f.p := Int.ediv_nonneg n0 (by omega)
  have q1 : n / f.p * f.p ≤ n := Int.ediv_mul_le _ (by omega)
  have hkp : 1 ≤ f.k * f.p := mul_one9 (by omega) (by omega)
  have u1 : f.c * f.m * 1048576 ≤ cl (f.c * f.m * 1048576) (f.k * f.p) * (f.k * f.p) := cl_ge hkp
  have d1 : (du f.m f.k (n / f.p) - 1) * f.k < n / f.p * f.m := cl_lt (a := n / f.p * f.m) (show 1 ≤ f.k by omega)
  show 1048576 * (f.c * du f.m f.k (n / f.p)) ≤ n * cl (f.c * f.m * 1048576) (f.k * f.p) + 1048576 * f.c
  generalize cl (f.c * f.m * 1048576) (f.k * f.p) = u at *
  generalize du f.m f.k (n / f.p) = d at *
  generalize n / f.p = q at *
  have a1 : 1048576 * f.c * (d - 1) * (f.k * f.p) ≤ 1048576 * f.c * f.m * (q * f.p) := by
    have e1 : 1048576 * f.c * (d - 1) * (f.k * f.p) = ((d - 1) * f.k) * (1048576 * f.c * f.p) := by ac_rfl
    have e2 : 1048576 * f.c * f.m * (q * f.p) = (q * f.m) * (1048576 * f.c * f.p) := by ac_rfl
    rw [e1, e2]
    exact Int.mul_le_mul_of_nonneg_right (by omega) (Int.mul_nonneg (by omega) (by omega))
  have a2 : 1048576 * f.c * f.m * (q * f.p) ≤ 1048576 * f.c * f.m * n := Int.mul_le_mul_of_nonneg_left q1 (Int.mul_nonneg (by omega) (by omega))
  have a3 : 1048576 * f.c * f.m * n ≤ (n * u) * (f.k * f.p) := by
    have e1 : 1048576 * f.c * f.m * n = (f.c * f.m * 1048576) * n := by ac_rfl
    have e2 : (n * u) * (f.k * f.p) = (u * (f.k * f.p)) * n := by ac_rfl
    rw [e1, e2]
    exact Int.mul_le_mul_of_nonneg_right u1 n0
  have a4 : 1048576 * f.c * (d - 1) ≤ n * u := Int.le_of_mul_le_mul_right (Int.le_trans a1 (Int.le_trans a2 a3)) (by omega)
  have e3 : 1048576 * f.c * (d - 1) = 1048576 * (f.c * d) - 1048576 * f.c := by rw [Int.mul_sub, Int.mul_one, Int.mul_assoc]
  omega
/-- From the horizon on no stretch is too short. -/
theorem beyond {l : Nat} {f : Nat → Fx} {n : Int} (h : may9 l f = true) (hn : hor9 l f ≤ n) (n1 : n ≤ 1099511627776) : allS l f n ≤ n := by
  obtain ⟨l4, hk, hu⟩ := may9_facts h
  rw [hor9_yes h] at hn
  have hc : 0 ≤ sm l (csF f) := sm_nn9 fun i hi => by have := kn_facts (knAll_of hk hi); unfold csF; omega
  have n0 : 0 ≤ n := by omega
  have h1 : sm l (fun i => 1048576 * ofV9 (f i) n) ≤ sm l (fun i => n * uns f i + 1048576 * csF f i) := sm_le fun i hi => of_units (knAll_of hk hi) n0 n1
  rw [sm_mul, sm_add, sm_mul, sm_mul] at h1
  have h2 : n * sm l (uns f) ≤ n * 983040 := Int.mul_le_mul_of_nonneg_left hu n0
  unfold allS
  generalize sm l (fun i => ofV9 (f i) n) = a at *
  generalize n * sm l (uns f) = b at *
  omega

/-- What the first stretch is that is too short. -/
def IsFst (g : Int → Int) (h r : Int) : Prop := (r = 0 ∧ ∀ i, 1 ≤ i → i < h → g i ≤ i) ∨ (1 ≤ r ∧ r < h ∧ r < g r ∧ ∀ i, 1 ≤ i → i < r → g i ≤ i)
theorem IsFst.unique {g : Int → Int} {h r s : Int} (hr : IsFst g h r) (hs : IsFst g h s) : r = s := by
  rcases hr with ⟨rfl, h1⟩ | ⟨r0, r1, r2, r3⟩ <;> rcases hs with ⟨rfl, h2⟩ | ⟨s0, s1, s2, s3⟩
  · rfl
  · have := h1 s s0 s1; omega
  · have := h2 r r0 r1; omega
  · by_cases c : r < s
    · have := s3 r r0 c; omega
    · by_cases c' : s < r
      · have := r3 s s0 c'; omega
      · omega
theorem fst9_is (g : Int → Int) (h : Nat) : IsFst g h (fst9 g h) := by
  induction h with
  | zero => exact .inl ⟨rfl, fun i _ _ => by omega⟩
  | succ h ih =>
    unfold fst9
    by_cases c : fst9 g h = 0
    · rw [if_pos c]
      have h0 : ∀ i, 1 ≤ i → i < (h : Int) → g i ≤ i := by
        rcases ih with ⟨_, h1⟩ | ⟨r0, _⟩
        · exact h1
        · omega
      by_cases c1 : 1 ≤ h ∧ (h : Int) < g h
      · rw [if_pos c1]
        exact .inr ⟨by omega, by omega, c1.2, h0⟩
      · rw [if_neg c1]
        refine .inl ⟨rfl, fun i i0 i1 => ?_⟩
        by_cases c2 : i = h
        · subst c2; omega
        · exact h0 i i0 (by omega)
    · rw [if_neg c]
      rcases ih with ⟨h0, _⟩ | ⟨r0, r1, r2, r3⟩
      · exact absurd h0 c
      · exact .inr ⟨r0, by omega, r2, r3⟩
theorem hor9_nonneg (l : Nat) (f : Nat → Fx) : 0 ≤ hor9 l f ∧ hor9 l f ≤ 384 := by
  cases h : may9 l f with
  | false => rw [hor9_no h]; omega
  | true =>
    rw [hor9_yes h]
    obtain ⟨l4, hk, hu⟩ := may9_facts h
    have hc : 0 ≤ sm l (csF f) := sm_nn9 fun i hi => by have := kn_facts (knAll_of hk hi); unfold csF; omega
    have hc1 : sm l (csF f) ≤ sm l (fun _ => 6) := sm_le fun i hi => by have := kn_facts (knAll_of hk hi); unfold csF; omega
    rw [sm_const] at hc1
    omega
theorem first9_is (l : Nat) (f : Nat → Fx) : IsFst (allV9 l f) (hor9 l f) (first9 l f) := by
  have h0 := (hor9_nonneg l f).1
  have := fst9_is (allV9 l f) (hor9 l f).toNat
  rw [show (((hor9 l f).toNat : Nat) : Int) = hor9 l f by omega] at this
  exact this
theorem first9_eq {l : Nat} {f : Nat → Fx} {r : Int} (h : IsFst (allV9 l f) (hor9 l f) r) : first9 l f = r := (first9_is l f).unique h
theorem all9_in {l : Nat} {f : Nat → Fx} {n : Int} (h : l ≤ 1000) : allV9 l f n = allS l f n := by unfold allV9; rw [if_pos h]
theorem tst_iff {l : Nat} {f : Nat → Fx} : tst9 l f = true ↔ may9 l f = true ∧ ∀ n, 0 ≤ n → n ≤ 1099511627776 → allS l f n ≤ n := by
  unfold tst9
  rw [Bool.and_eq_true, decide_eq_true_eq]
  constructor
  · rintro ⟨h1, h2⟩
    refine ⟨h1, fun n n0 n1 => ?_⟩
    have l4 := (may9_facts h1).1
    rcases first9_is l f with ⟨_, h3⟩ | ⟨r0, _⟩
    · by_cases c : hor9 l f ≤ n
      · exact beyond h1 c n1
      · by_cases c1 : 1 ≤ n
        · rw [← all9_in (show l ≤ 1000 by omega)]; exact h3 n c1 (by omega)
        · obtain rfl : n = 0 := by omega
          have : allS l f 0 ≤ sm l (fun _ => 0) := sm_le fun i _ => (of_bd (f i) 0).2.2 (Int.le_refl _)
          rw [sm_zero] at this; exact this
    · omega
  · rintro ⟨h1, h2⟩
    refine ⟨h1, ?_⟩
    have l4 := (may9_facts h1).1
    have hh := (hor9_nonneg l f).2
    rcases first9_is l f with ⟨h3, _⟩ | ⟨r0, r1, r2, _⟩
    · exact h3
    · rw [all9_in (show l ≤ 1000 by omega)] at r2
      have := h2 _ (show 0 ≤ first9 l f by omega) (by omega)
      omega
end Go.Proofs.YtmiakknagjncpaaGreatDoor
/- Walks of package demand: whether a list has a number, known, within, Of. -/
namespace Go.Proofs.YtmiakknagjncpaaGreatDoor
open Go.RowKit Go.Shelf

set_option maxHeartbeats 1000000 in
set_option maxRecDepth 100000 in
theorem index_any (xs : List Int) (n : Int) (v : Value) (w : World) (h : Nums w v xs) (hx : xs.length ≤ 100000) :
    Calls Tryz.prog 104 #[v, .int .i64 n] w fun r w' => (∃ z : Int, r = .returned (.int .i64 z) ∧ -1 ≤ z ∧ z ≤ 100000 ∧ Hid (0 ≤ z ↔ n ∈ xs)) ∧ w' = w := by
  obtain ⟨a, cap, rfl, h1, h2, h3⟩ := h
  go_enter Tryz.func104, Tryz.ntmps104
  go_wp2_with fail
  go_loop [8] (fun s => ∃ (j : Nat), j ≤ xs.length ∧ s = .int .i64 j ∧ Hid (∀ i, i < j → xs.getD i 0 ≠ n)) (fun s => ((xs.length : Int) - intOf s).toNat)
  case atStart => exact ⟨0, by omega, rfl, fun i hi => by omega⟩
  case round =>
    obtain ⟨j, hj, rfl, HZ⟩ := hrel
    by_cases hlt : (j : Int) < xs.length
    · obtain ⟨b, o, rfl, h4⟩ := h3 (by intro e; rw [e, List.length_nil] at hlt; omega)
      have hc := h4 j (by omega)
      clear h4 h3
      have HJ : Hid (xs.getD j 0 ∈ xs) := by
        show xs.getD j 0 ∈ xs
        have e : xs.getD j 0 = xs[j]'(by omega) := by simp [List.getD, show j < xs.length by omega]
        rw [e]; exact List.getElem_mem _
      obtain ⟨y, hy⟩ : ∃ y, xs.getD j 0 = y := ⟨_, rfl⟩
      have HY : Hid (xs.getD j 0 = y) := hy
      rw [hy] at hc
      clear hy
      by_cases he : n = y
      · have HE : Hid (n ∈ xs) := by show n ∈ xs; rw [he, ← HY.out]; exact HJ.out
        go_wp2
        go_ret
        exact ⟨⟨j, rfl, by omega, by omega, by have := HE.out; exact ⟨fun _ => by first | exact this | (rw [← he]; exact this), fun _ => by omega⟩⟩, rfl⟩
      · have HN : Hid (∀ i, i < j + 1 → xs.getD i 0 ≠ n) := by
          intro i hi
          by_cases c : i = j
          · subst c; rw [HY.out]; exact fun h => he h.symm
          · exact HZ.out i (by omega)
        go_wp2_with fail
        go_round
        case rel => exact ⟨j + 1, by omega, by go_num, HN.out⟩
        case measure => simp [intOf]; omega
    · have HN : Hid (n ∉ xs) := by
        intro hm
        obtain ⟨i, hi, e⟩ := List.getElem_of_mem hm
        exact HZ.out i (by omega) (by simp [List.getD, hi, e])
      go_wp2
      go_ret
      exact ⟨⟨-1, rfl, by omega, by omega, ⟨fun h => by omega, fun h => absurd h HN.out⟩⟩, rfl⟩

set_option maxHeartbeats 1000000 in
set_option maxRecDepth 100000 in
theorem contains_any (xs : List Int) (n : Int) (v : Value) (w : World) (h : Nums w v xs) (hx : xs.length ≤ 100000) :
    Calls Tryz.prog 75 #[v, .int .i64 n] w fun r w' => r = .returned (.bool (decide (n ∈ xs))) ∧ w' = w := by
  go_enter Tryz.func75, Tryz.ntmps75
  go_wp2_with fail
  refine (index_any xs n v _ h hx).mono ?_
  rintro r w1 ⟨⟨z, rfl, z0, z1, HZ⟩, rfl⟩
  go_wp2
  go_ret
  exact ⟨ret_b (decide_eq_decide.2 HZ.out), rfl⟩

theorem contains_bel (xs : List Int) (n : Int) (v : Value) (w : World) (h : Nums w v xs) (hx : xs.length ≤ 100000) :
    Calls Tryz.prog 75 #[v, .int .i64 n] w fun r w' => r = .returned (.bool (decide (n ∈ xs))) ∧ Below w.heap.size w w' := by
  refine (contains_any xs n v w h hx).mono ?_
  rintro r w' ⟨rfl, rfl⟩
  exact ⟨rfl, Below.refl _ _⟩

theorem mem_all (f : Fx) : decide (f.p ∈ allL f.sp) = knB f := by
  cases h : maySp f.sp with
  | false => rw [all_no h]; unfold knB; rw [h]; simp
  | true =>
    rw [all_yes h]
    unfold knB wiB
    rw [h, Bool.true_and]
    obtain ⟨c0, c1, f2, f3, f4, _⟩ := may_facts h
    rw [decide_eq_decide]
    unfold perL lst7 rn perN
    simp only [List.mem_map, List.mem_range, Fx.sp] at *
    constructor
    · rintro ⟨i, hi, e⟩
      omega
    · rintro ⟨p0, p1⟩
      exact ⟨(f.p - f.t).toNat, by omega, by omega⟩

theorem within9_any (n a b : Int) (w : World) :
    Calls Tryz.prog 110 #[.int .i64 n, .int .i64 a, .int .i64 b] w fun e w' => e = .returned (.bool (wiB n a b)) ∧ w' = w := by
  by_cases c0 : a ≤ n
  · have H : Hid (wiB n a b = decide (n ≤ b)) := by show _ = _; unfold wiB; simp [c0]
    go_enter Tryz.func110, Tryz.ntmps110
    go_wp2
    go_ret
    exact ⟨ret_b H.out.symm, rfl⟩
  · have H : Hid (wiB n a b = false) := by show _ = _; unfold wiB; simp [c0]
    go_enter Tryz.func110, Tryz.ntmps110
    go_wp2
    go_ret
    exact ⟨ret_b H.out.symm, rfl⟩

section
variable (c t x m k e p : Int)
set_option maxHeartbeats 2000000 in
set_option maxRecDepth 100000 in
theorem kn_any (w : World) :
    Calls Tryz.prog 53 #[.agg #[.int .i64 c, .int .i64 t, .int .i64 x, .int .i64 m, .int .i64 k, .int .i64 e, .int .i64 p]] w fun r w' => r = .returned (.bool (knB ⟨c, t, x, m, k, e, p⟩)) ∧ Below w.heap.size w w' := by
  have hS := Sev.new w c t x m k e p
  have hE : Hid (Below w.heap.size w (w.alloc (.cells #[.int .i64 c, .int .i64 t, .int .i64 x, .int .i64 m, .int .i64 k, .int .i64 e, .int .i64 p] 42))) := (Below.refl _ _).alloc (Nat.le_refl _) _
  have HK : Hid (decide (p ∈ allL ⟨c, t, x, m, k, e⟩) = knB ⟨c, t, x, m, k, e, p⟩) := mem_all ⟨c, t, x, m, k, e, p⟩
  obtain ⟨q, hq⟩ : ∃ q, knB ⟨c, t, x, m, k, e, p⟩ = q := ⟨_, rfl⟩
  rw [hq] at HK ⊢
  obtain ⟨xs, hxs⟩ : ∃ xs, allL ⟨c, t, x, m, k, e⟩ = xs := ⟨_, rfl⟩
  have HL : Hid (xs.length ≤ 100000) := by show _ ≤ _; rw [← hxs]; exact all_len _
  rw [hxs] at HK
  have HX : Hid (allL ⟨c, t, x, m, k, e⟩ = xs) := hxs
  clear hq hxs
  go_enter Tryz.func53, Tryz.ntmps53
  go_wp2_with fail
  generalize (w.alloc (.cells #[.int .i64 c, .int .i64 t, .int .i64 x, .int .i64 m, .int .i64 k, .int .i64 e, .int .i64 p] 42)) = W at *
  have s5 := hE.out.size
  have MK : Hid (∀ w' : World, Below W.heap.size W w' → (w'.cell? ⟨w.heap.size, 0, none⟩ = some (.int .i64 c) ∧ w'.cell? ⟨w.heap.size, 1, none⟩ = some (.int .i64 t) ∧ w'.cell? ⟨w.heap.size, 2, none⟩ = some (.int .i64 x) ∧ w'.cell? ⟨w.heap.size, 3, none⟩ = some (.int .i64 m) ∧ w'.cell? ⟨w.heap.size, 4, none⟩ = some (.int .i64 k) ∧ w'.cell? ⟨w.heap.size, 5, none⟩ = some (.int .i64 e) ∧ w'.cell? ⟨w.heap.size, 6, none⟩ = some (.int .i64 p)) ∧ Below W.heap.size W w') := fun w' hb => ⟨(hS.later hb).fx, hb⟩
  clear hS
  go_region_held3 (fun w' => (w'.cell? ⟨w.heap.size, 0, none⟩ = some (.int .i64 c) ∧ w'.cell? ⟨w.heap.size, 1, none⟩ = some (.int .i64 t) ∧ w'.cell? ⟨w.heap.size, 2, none⟩ = some (.int .i64 x) ∧ w'.cell? ⟨w.heap.size, 3, none⟩ = some (.int .i64 m) ∧ w'.cell? ⟨w.heap.size, 4, none⟩ = some (.int .i64 k) ∧ w'.cell? ⟨w.heap.size, 5, none⟩ = some (.int .i64 e) ∧ w'.cell? ⟨w.heap.size, 6, none⟩ = some (.int .i64 p)) ∧ Below W.heap.size W w')
    (first | exact MK.out _ (bstep (by assumption) (sBel (by assumption))) | exact MK.out _ (Below.refl _ _).drew)
    (first
    | (go_at_call 76; refine (perAll_any c t x m k e _).mono ?_; rintro r w3 ⟨v1, rfl, hv1, hb3⟩; rw [HX.out] at hv1; have hr1 := hv1.nums)
    | (go_at_call 75; have hr2 := hr1; refine (contains_bel xs p v1 _ hr2 HL.out).mono ?_; rintro r w4 ⟨rfl, hb4⟩; rw [HK.out]))
  all_goals
    go_wp2
    go_ret
    exact ⟨rfl, hE.out.trans ((sBel (by assumption)).mono s5)⟩
end
end Go.Proofs.YtmiakknagjncpaaGreatDoor
/- Walks of package demand: Of. -/
namespace Go.Proofs.YtmiakknagjncpaaGreatDoor
open Go.RowKit Go.Shelf
section
variable (c t x m k e p : Int)
set_option maxHeartbeats 2000000 in
set_option maxRecDepth 100000 in
theorem of9_any (n : Int) (w : World) :
    Calls Tryz.prog 101 #[.agg #[.int .i64 c, .int .i64 t, .int .i64 x, .int .i64 m, .int .i64 k, .int .i64 e, .int .i64 p], .int .i64 n] w fun r w' => r = .returned (.int .i64 (ofV9 ⟨c, t, x, m, k, e, p⟩ n)) ∧ Below w.heap.size w w' := by
  have hS := Sev.new w c t x m k e p
  have hE : Hid (Below w.heap.size w (w.alloc (.cells #[.int .i64 c, .int .i64 t, .int .i64 x, .int .i64 m, .int .i64 k, .int .i64 e, .int .i64 p] 42))) := (Below.refl _ _).alloc (Nat.le_refl _) _
  cases h1 : knB ⟨c, t, x, m, k, e, p⟩ with
  | false =>
    have H1 : Hid (knB ⟨c, t, x, m, k, e, p⟩ = false) := h1
    have H : Hid (ofV9 ⟨c, t, x, m, k, e, p⟩ n = 0) := of9_no (by unfold ofB9; rw [h1]; rfl)
    clear h1
    go_enter Tryz.func101, Tryz.ntmps101
    go_wp2_with fail
    refine (kn_any c t x m k e p _).mono ?_
    rintro r w1 ⟨rfl, hb1⟩
    rw [H1.out]
    go_wp2_with fail
    go_ret
    exact ⟨ret_i H.out.symm, hE.out.trans (hb1.mono hE.out.size)⟩
  | true =>
    have H1 : Hid (knB ⟨c, t, x, m, k, e, p⟩ = true) := h1
    cases h2 : wiB n 0 1099511627776 with
    | false =>
      have H2 : Hid (wiB n 0 1099511627776 = false) := h2
      have H : Hid (ofV9 ⟨c, t, x, m, k, e, p⟩ n = 0) := of9_no (by unfold ofB9; rw [h1, h2]; rfl)
      clear h1 h2
      go_enter Tryz.func101, Tryz.ntmps101
      go_wp2_with fail
      refine (kn_any c t x m k e p _).mono ?_
      rintro r w1 ⟨rfl, hb1⟩
      rw [H1.out]
      go_wp2_with fail
      refine (within9_any n 0 1099511627776 _).mono ?_
      rintro r w2 ⟨rfl, hw2⟩
      obtain rfl := hw2.symm
      rw [H2.out]
      go_wp2_with fail
      go_ret
      exact ⟨ret_i H.out.symm, hE.out.trans (hb1.mono hE.out.size)⟩
    | true =>
      have H2 : Hid (wiB n 0 1099511627776 = true) := h2
      obtain ⟨n0, n1⟩ := of_decide_eq_true (show decide (0 ≤ n ∧ n ≤ 1099511627776) = true from h2)
      obtain ⟨_, c0, c1, c2, p0, p1, x1, m0, m1, k1⟩ := kn_facts h1
      simp only at c0 c1 c2 p0 p1 x1 m0 m1 k1
      have hd : 0 ≤ n / p := Int.ediv_nonneg n0 (by omega)
      have hd1 : n / p ≤ n := Int.ediv_le_self _ n0
      have e1 := of9_yes h1 n0 n1
      simp only at e1
      have hbd := of_bd ⟨c, t, x, m, k, e, p⟩ n
      have q0 : mostV m k (n / p) = du m k (n / p) := mostV_in m0 m1 k1 hd (by omega)
      obtain ⟨d, hdd⟩ : ∃ d, du m k (n / p) = d := ⟨_, rfl⟩
      rw [hdd] at e1 q0
      rw [e1] at hbd
      have H : Hid (ofV9 ⟨c, t, x, m, k, e, p⟩ n = c * d) := e1
      have HM : Hid (mostV m k (n / p) = d) := q0
      obtain ⟨b0, b1, _⟩ := hbd
      have hw : IntKind.i64.wrap (c * d) = c * d := by rw [IntKind.wrap_i64]; omega
      have HP : Hid (1 ≤ p ∧ p ≤ 4611686018427387904 ∧ n ≤ 4611686018427387904) := ⟨by omega, by omega, by omega⟩
      obtain ⟨j, hj⟩ : ∃ j, n / p = j := ⟨_, rfl⟩
      have HJ : Hid (n / p = j) := hj
      rw [hj] at HM
      clear h1 h2 e1 q0 hdd hj hd hd1 c0 c1 c2 p0 p1 x1 m0 m1 k1
      go_enter Tryz.func101, Tryz.ntmps101
      go_wp2_with fail
      refine (kn_any c t x m k e p _).mono ?_
      rintro r w1 ⟨rfl, hb1⟩
      rw [H1.out]
      have hS1 := hS.later hb1
      replace hb1 : Below w.heap.size w w1 := hE.out.trans (hb1.mono hE.out.size)
      obtain ⟨a0, a1, a2, a3, a4, a5, a6⟩ := hS1.fx
      go_wp2_with fail
      refine (within9_any n 0 1099511627776 _).mono ?_
      rintro r w2 ⟨rfl, hw2⟩
      obtain rfl := hw2.symm
      rw [H2.out]
      go_wp2_with fail
      refine (floor_yes n p _ n0 HP.out.2.2 HP.out.1 HP.out.2.1).mono ?_
      rintro r w2 ⟨rfl, hb2⟩
      rw [HJ.out]
      have hS2 := hS1.later hb2
      replace hb2 : Below w.heap.size w w2 := hb1.trans (hb2.mono hb1.size)
      clear hS hS1 hb1 a0 a1 a2 a3 a4 a5 a6
      have MK : Hid (∀ w' : World, Below w2.heap.size w2 w' → (w'.cell? ⟨w.heap.size, 0, none⟩ = some (.int .i64 c) ∧ w'.cell? ⟨w.heap.size, 1, none⟩ = some (.int .i64 t) ∧ w'.cell? ⟨w.heap.size, 2, none⟩ = some (.int .i64 x) ∧ w'.cell? ⟨w.heap.size, 3, none⟩ = some (.int .i64 m) ∧ w'.cell? ⟨w.heap.size, 4, none⟩ = some (.int .i64 k) ∧ w'.cell? ⟨w.heap.size, 5, none⟩ = some (.int .i64 e) ∧ w'.cell? ⟨w.heap.size, 6, none⟩ = some (.int .i64 p)) ∧ Below w2.heap.size w2 w') := fun w' hb => ⟨(hS2.later hb).fx, hb⟩
      clear hS2
      go_wp2_with fail
      go_region_held3 (fun w' => (w'.cell? ⟨w.heap.size, 0, none⟩ = some (.int .i64 c) ∧ w'.cell? ⟨w.heap.size, 1, none⟩ = some (.int .i64 t) ∧ w'.cell? ⟨w.heap.size, 2, none⟩ = some (.int .i64 x) ∧ w'.cell? ⟨w.heap.size, 3, none⟩ = some (.int .i64 m) ∧ w'.cell? ⟨w.heap.size, 4, none⟩ = some (.int .i64 k) ∧ w'.cell? ⟨w.heap.size, 5, none⟩ = some (.int .i64 e) ∧ w'.cell? ⟨w.heap.size, 6, none⟩ = some (.int .i64 p)) ∧ Below w2.heap.size w2 w')
        (first | exact MK.out _ (bstep (by assumption) (sBel (by assumption))) | exact MK.out _ (Below.refl _ _).drew)
        (first
        | (go_at_call 112; refine (most_any m k j _).mono ?_; rintro r w3 ⟨rfl, hb3⟩; rw [HM.out]))
      all_goals
        go_wp2
        go_ret
        exact ⟨ret_i H.out.symm, hb2.trans ((sBel (by assumption)).mono hb2.size)⟩
end
end Go.Proofs.YtmiakknagjncpaaGreatDoor
/- Walks of package demand: All, Horizon's sum. -/
namespace Go.Proofs.YtmiakknagjncpaaGreatDoor
open Go.RowKit Go.Shelf

theorem allS_succ (l : Nat) (f : Nat → Fx) (n : Int) : allS (l + 1) f n = allS l f n + ofV9 (f l) n := rfl

set_option maxHeartbeats 2000000 in
set_option maxRecDepth 100000 in
theorem all9_any (l : Nat) (f : Nat → Fx) (n : Int) (v : Value) (w : World) (h : Fxs w v l f) :
    Calls Tryz.prog 70 #[v, .int .i64 n] w fun r w' => r = .returned (.int .i64 (allV9 l f n)) ∧ Below w.heap.size w w' := by
  obtain ⟨a, cap, rfl, h1, h2, h0, h3⟩ := h
  by_cases hl : (l : Int) > 1000
  · have H : Hid (allV9 l f n = 0) := if_neg (by omega)
    go_enter Tryz.func70, Tryz.ntmps70
    go_wp2
    go_ret
    exact ⟨ret_i H.out.symm, Below.refl _ _⟩
  · have H : Hid (allV9 l f n = allS l f n) := all9_in (by omega)
    go_enter Tryz.func70, Tryz.ntmps70
    go_wp2_with fail
    go_loopw [5, 13] (fun s i wr => ∃ (j : Nat) (z : Int), j ≤ l ∧ i = .int .i64 j ∧ s = .int .i64 z ∧ 0 ≤ z ∧ z ≤ j * 1099511627776 ∧ Hid (z = allS j f n) ∧ Below w.heap.size w wr) (fun _ i _ => ((l : Int) - intOf i).toNat)
    case atStart => exact ⟨0, 0, by omega, rfl, rfl, by omega, by omega, rfl, Below.refl _ _⟩
    case round =>
      obtain ⟨j, z, hj, rfl, rfl, z0, z1, HZ, hbw⟩ := hrel
      by_cases hlt : (j : Int) < l
      · obtain ⟨bk, o, rfl, h4⟩ := h3 (by omega)
        have hrow := row_open (f := f j) (h4 j (by omega))
        clear h4 h3
        obtain ⟨⟨cj, tj, xj, mj, kj, ej, pj⟩, hf⟩ : ∃ y, f j = y := ⟨_, rfl⟩
        have HF : Hid (f j = ⟨cj, tj, xj, mj, kj, ej, pj⟩) := hf
        rw [hf] at hrow
        clear hf
        obtain ⟨k0, k1, k2, k3, k4, k5, k6⟩ := hrow
        simp only at k0 k1 k2 k3 k4 k5 k6
        have e0 := cell_later hbw k0
        have e1 := cell_later hbw k1
        have e2 := cell_later hbw k2
        have e3 := cell_later hbw k3
        have e4 := cell_later hbw k4
        have e5 := cell_later hbw k5
        have e6 := cell_later hbw k6
        have sb := World.block_lt_of_cell? _ _ k0
        clear k0 k1 k2 k3 k4 k5 k6
        have sw := hbw.size
        have hbox : Below w.heap.size w (wr.alloc (.cells #[.int .i64 cj, .int .i64 tj, .int .i64 xj, .int .i64 mj, .int .i64 kj, .int .i64 ej, .int .i64 pj] 42)) := hbw.alloc sw _
        go_wp2_with fail
        refine (of9_any cj tj xj mj kj ej pj n _).mono ?_
        rintro r w2 ⟨rfl, hb2⟩
        have hb : Below w.heap.size w w2 := hbox.trans (hb2.mono hbox.size)
        obtain ⟨b0, b1, _⟩ := of_bd ⟨cj, tj, xj, mj, kj, ej, pj⟩ n
        have HS : Hid (z + ofV9 ⟨cj, tj, xj, mj, kj, ej, pj⟩ n = allS (j + 1) f n) := by show _ = _; rw [allS_succ, HF.out, ← HZ.out]
        generalize ofV9 ⟨cj, tj, xj, mj, kj, ej, pj⟩ n = y at *
        clear hb2 hbox
        go_wp2_with fail
        go_roundw
        case rel => exact ⟨j + 1, z + y, by omega, by go_num, by go_num, by omega, by omega, HS.out, hb⟩
        case measure => simp [intOf]; omega
      · obtain rfl : j = l := by omega
        go_wp2
        go_ret
        exact ⟨ret_i (by rw [H.out]; exact HZ.out), hbw⟩
end Go.Proofs.YtmiakknagjncpaaGreatDoor
/- Walks of package demand: May, Horizon. -/
namespace Go.Proofs.YtmiakknagjncpaaGreatDoor
open Go.RowKit Go.Shelf

theorem lst9_succ (n : Nat) (g : Nat → Int) : lst7 (n + 1) g = lst7 n g ++ [g n] := by unfold lst7; rw [List.range_succ, List.map_append]; rfl
theorem un_bd {f : Fx} (h : knB f = true) : 1 ≤ atV f.sp f.p ∧ atV f.sp f.p ≤ 1048576 := by
  obtain ⟨hs, c0, c1, c2, p0, p1, x1, m0, m1, k1⟩ := kn_facts h
  exact at_pos hs p0 p1
theorem fit_uns {l : Nat} {f : Nat → Fx} (h : knAll l f = true) (hl : l ≤ 4) : fitB6 (lst7 l (uns f)) = decide (sm l (uns f) ≤ 983040) := by
  have hs : sumB (lst7 l (uns f)) = true := by
    unfold sumB
    rw [lst7_len, decide_eq_true (show l ≤ 1000 by omega), Bool.true_and, List.all_eq_true]
    intro u hu
    unfold lst7 at hu
    obtain ⟨i, hi, rfl⟩ := List.mem_map.1 hu
    have := un_bd (knAll_of h (List.mem_range.1 hi))
    unfold unB wiB uns
    exact decide_eq_true (by omega)
  unfold fitB6
  rw [hs, sum_yes hs, lst7_sum, Bool.true_and]

set_option maxHeartbeats 2000000 in
set_option maxRecDepth 100000 in
theorem may9_any (l : Nat) (f : Nat → Fx) (v : Value) (w : World) (h : Fxs w v l f) (hL : Lim w) :
    Calls Tryz.prog 32 #[v] w fun r w' => r = .returned (.bool (may9 l f)) ∧ Below w.heap.size w w' := by
  obtain ⟨a, cap, rfl, h1, h2, h0, h3⟩ := h
  have HLim : Hid (Lim w) := hL
  clear hL
  by_cases hl : (l : Int) > 4
  · have H : Hid (may9 l f = false) := may9_long (by omega)
    go_enter Tryz.func32, Tryz.ntmps32
    go_wp2
    go_ret
    exact ⟨ret_b H.out.symm, Below.refl _ _⟩
  · go_enter Tryz.func32, Tryz.ntmps32
    go_wp2_with fail
    go_loopw [3, 11] (fun s i wr => ∃ (j : Nat), j ≤ l ∧ i = .int .i64 j ∧ Hid (∀ i, i < j → knB (f i) = true) ∧ Hid (wr.ownsRow w.heap.size 3 1 s j (ivs (lst7 j (uns f)))) ∧ Below w.heap.size w wr) (fun _ i _ => ((l : Int) - intOf i).toNat)
    case atStart => exact ⟨0, by omega, rfl, fun i hi => by omega, World.ownsRow_nil _ _ _ _, Below.refl _ _⟩
    case round =>
      obtain ⟨j, hj, rfl, HK, HO, hbw⟩ := hrel
      by_cases hlt : (j : Int) < l
      · obtain ⟨bk, o, rfl, h4⟩ := h3 (by omega)
        have hrow := row_open (f := f j) (h4 j (by omega))
        clear h4 h3
        obtain ⟨⟨cj, tj, xj, mj, kj, ej, pj⟩, hf⟩ : ∃ y, f j = y := ⟨_, rfl⟩
        have HF : Hid (f j = ⟨cj, tj, xj, mj, kj, ej, pj⟩) := hf
        rw [hf] at hrow
        clear hf
        obtain ⟨k0, k1, k2, k3, k4, k5, k6⟩ := hrow
        simp only at k0 k1 k2 k3 k4 k5 k6
        have e0 := cell_later hbw k0
        have e1 := cell_later hbw k1
        have e2 := cell_later hbw k2
        have e3 := cell_later hbw k3
        have e4 := cell_later hbw k4
        have e5 := cell_later hbw k5
        have e6 := cell_later hbw k6
        have sb := World.block_lt_of_cell? _ _ k0
        clear k0 k1 k2 k3 k4 k5 k6
        have sw := hbw.size
        have hbox : Below w.heap.size w (wr.alloc (.cells #[.int .i64 cj, .int .i64 tj, .int .i64 xj, .int .i64 mj, .int .i64 kj, .int .i64 ej, .int .i64 pj] 42)) := hbw.alloc sw _
        have hS := Sev.new wr cj tj xj mj kj ej pj
        have HO1 : Hid (World.ownsRow (wr.alloc (.cells #[.int .i64 cj, .int .i64 tj, .int .i64 xj, .int .i64 mj, .int .i64 kj, .int .i64 ej, .int .i64 pj] 42)) w.heap.size 3 1 u3 j (ivs (lst7 j (uns f)))) := HO.out.alloc _
        cases hk : knB ⟨cj, tj, xj, mj, kj, ej, pj⟩ with
        | false =>
          have H1 : Hid (knB ⟨cj, tj, xj, mj, kj, ej, pj⟩ = false) := hk
          have H : Hid (may9 l f = false) := may9_kn (knAll_no (i := j) (by omega) (by rw [HF.out]; exact hk))
          clear hk
          go_wp2_with fail
          refine (kn_any cj tj xj mj kj ej pj _).mono ?_
          rintro r w2 ⟨rfl, hb2⟩
          rw [H1.out]
          go_wp2_with fail
          go_ret
          exact ⟨ret_b H.out.symm, hbox.trans (hb2.mono hbox.size)⟩
        | true =>
          have H1 : Hid (knB ⟨cj, tj, xj, mj, kj, ej, pj⟩ = true) := hk
          have HK2 : Hid (∀ i, i < j + 1 → knB (f i) = true) := by
            intro i hi
            by_cases c : i = j
            · subst c; rw [HF.out]; exact hk
            · exact HK.out i (by omega)
          clear hk
          go_wp2_with fail
          refine (kn_any cj tj xj mj kj ej pj _).mono ?_
          rintro r w2 ⟨rfl, hb2⟩
          rw [H1.out]
          have hS2 := hS.later hb2
          have HO2 : Hid (w2.ownsRow w.heap.size 3 1 u3 j (ivs (lst7 j (uns f)))) := own_laterF HO1.out hb2
          replace hb2 : Below w.heap.size w w2 := hbox.trans (hb2.mono hbox.size)
          obtain ⟨a0, a1, a2, a3, a4, a5, a6⟩ := hS2.fx
          clear hS hbox HO1 HO hbw
          go_wp2_with fail
          refine (at_any cj tj xj mj kj ej pj _).mono ?_
          rintro r w3 ⟨rfl, hb3⟩
          have hown3 := own_laterF HO2.out hb3
          replace hb3 : Below w.heap.size w w3 := hb2.trans (hb3.mono hb2.size)
          have HU : Hid (uns f j = atV ⟨cj, tj, xj, mj, kj, ej⟩ pj) := by show _ = _; unfold uns; rw [HF.out]; rfl
          generalize atV ⟨cj, tj, xj, mj, kj, ej⟩ pj = y at *
          have s3 := hb3.size
          have hown1 := hown3.alloc (.cells #[.int .i64 y] 3)
          have hlit := nums_one w3 y
          have hnc : NilCap (.slice (some ⟨w3.heap.size, 0, none⟩) 1 1) := fun c h => by simp at h
          clear hown3 HO2 hS2 a0 a1 a2 a3 a4 a5 a6 hb2
          go_wp2_with (first
            | (at_builtin; refine append_nums rfl _ _ rfl w.heap.size _ _ _ _ [y] rfl hown1 rfl hlit hnc (by simp; omega) (by simp; omega) ?_))
          intro v' w4 hown' _ hb4
          have HO4 : Hid (w4.ownsRow w.heap.size 3 1 v' (j + 1) (ivs (lst7 (j + 1) (uns f)))) := by show World.ownsRow _ _ _ _ _ _ _; rw [lst9_succ, HU.out]; exact hown'
          have HB4 : Hid (Below w.heap.size w w4) := (hb3.alloc s3 _).trans hb4
          clear hown' hown1 hlit hnc hb4
          go_wp2_with fail
          go_roundw
          case rel => exact ⟨j + 1, by omega, by go_num, HK2.out, HO4.out, HB4.out⟩
          case measure => simp [intOf]; omega
      · obtain rfl : j = l := by omega
        have hka : knAll j f = true := knAll_yes HK.out
        have HM : Hid (fitB6 (lst7 j (uns f)) = may9 j f) := by
          show _ = _
          rw [fit_uns hka (by omega)]
          unfold may9
          rw [hka, decide_eq_true (show j ≤ 4 by omega)]; rfl
        have hN := (Nums.own HO.out).1
        clear hka
        go_wp2_with fail
        refine (fits_any (lst7 j (uns f)) _ _ hN (HLim.out.later hbw)).mono ?_
        rintro r w2 ⟨rfl, hw2⟩
        obtain rfl := hw2.symm
        rw [HM.out]
        go_wp2_with fail
        go_ret
        exact ⟨rfl, hbw⟩

theorem cl_16 (s : Int) : cl (s * 1048576) 65536 = 16 * s := by unfold cl; rw [if_pos (by omega)]; omega
theorem cs_bd {l : Nat} {f : Nat → Fx} (h : knAll l f = true) : ∀ j, j ≤ l → 0 ≤ sm j (csF f) ∧ sm j (csF f) ≤ j * 6 := by
  intro j hj
  refine ⟨sm_nn9 fun i hi => ?_, ?_⟩
  · have := kn_facts (knAll_of h (show i < l by omega)); unfold csF; omega
  · rw [← sm_const]
    exact sm_le fun i hi => by have := kn_facts (knAll_of h (show i < l by omega)); unfold csF; omega

set_option maxHeartbeats 2000000 in
set_option maxRecDepth 100000 in
theorem hor9_any (l : Nat) (f : Nat → Fx) (v : Value) (w : World) (h : Fxs w v l f) (hL : Lim w) :
    Calls Tryz.prog 69 #[v] w fun r w' => r = .returned (.int .i64 (hor9 l f)) ∧ Below w.heap.size w w' := by
  have HMay := may9_any l f v w h hL
  clear hL
  obtain ⟨a, cap, rfl, h1, h2, h0, h3⟩ := h
  cases hm : may9 l f with
  | false =>
    have HM : Hid (may9 l f = false) := hm
    have H : Hid (hor9 l f = 0) := hor9_no hm
    clear hm
    go_enter Tryz.func69, Tryz.ntmps69
    go_wp2_with fail
    refine HMay.mono ?_
    rintro r w1 ⟨rfl, hb1⟩
    rw [HM.out]
    go_wp2_with fail
    go_ret
    exact ⟨ret_i H.out.symm, hb1⟩
  | true =>
    have HM : Hid (may9 l f = true) := hm
    have H : Hid (hor9 l f = 16 * sm l (csF f)) := hor9_yes hm
    obtain ⟨l4, hk, _⟩ := may9_facts hm
    have HC : Hid (∀ j, j ≤ l → 0 ≤ sm j (csF f) ∧ sm j (csF f) ≤ j * 6) := cs_bd hk
    clear hm hk
    go_enter Tryz.func69, Tryz.ntmps69
    go_wp2_with fail
    refine HMay.mono ?_
    rintro r w1 ⟨rfl, hb1⟩
    rw [HM.out]
    clear HMay
    go_wp2_with fail
    go_loopw [3, 13] (fun s i wr => ∃ (j : Nat) (z : Int), j ≤ l ∧ i = .int .i64 j ∧ s = .int .i64 z ∧ 0 ≤ z ∧ z ≤ j * 6 ∧ Hid (z = sm j (csF f)) ∧ Below w.heap.size w wr) (fun _ i _ => ((l : Int) - intOf i).toNat)
    case atStart => exact ⟨0, 0, by omega, rfl, rfl, by omega, by omega, rfl, hb1⟩
    case round =>
      obtain ⟨j, z, hj, rfl, rfl, z0, z1, HZ, hbw⟩ := hrel
      by_cases hlt : (j : Int) < l
      · obtain ⟨bk, o, rfl, h4⟩ := h3 (by omega)
        have hrow := row_open (f := f j) (h4 j (by omega))
        clear h4 h3
        obtain ⟨⟨cj, tj, xj, mj, kj, ej, pj⟩, hf⟩ : ∃ y, f j = y := ⟨_, rfl⟩
        have HF : Hid (f j = ⟨cj, tj, xj, mj, kj, ej, pj⟩) := hf
        rw [hf] at hrow
        clear hf
        obtain ⟨k0, k1, k2, k3, k4, k5, k6⟩ := hrow
        simp only at k0 k1 k2 k3 k4 k5 k6
        have e0 := cell_later hbw k0
        have e1 := cell_later hbw k1
        have e2 := cell_later hbw k2
        have e3 := cell_later hbw k3
        have e4 := cell_later hbw k4
        have e5 := cell_later hbw k5
        have e6 := cell_later hbw k6
        have sb := World.block_lt_of_cell? _ _ k0
        clear k0 k1 k2 k3 k4 k5 k6
        have sw := hbw.size
        have hbox : Below w.heap.size w (wr.alloc (.cells #[.int .i64 cj, .int .i64 tj, .int .i64 xj, .int .i64 mj, .int .i64 kj, .int .i64 ej, .int .i64 pj] 42)) := hbw.alloc sw _
        have HS : Hid (z + cj = sm (j + 1) (csF f)) := by show _ = sm j (csF f) + csF f j; rw [← HZ.out]; unfold csF; rw [HF.out]
        have hc := HC.out (j + 1) (by omega)
        rw [← HS.out] at hc
        obtain ⟨y0, y1⟩ := hc
        go_wp2_with fail
        go_roundw
        case rel => exact ⟨j + 1, z + cj, by omega, by go_num, by go_num, by omega, by omega, HS.out, hbox⟩
        case measure => simp [intOf]; omega
      · obtain rfl : j = l := by omega
        go_wp2_with fail
        refine (ceil_yes (z * 1048576) 65536 _ (by omega) (by omega) (by omega) (by omega)).mono ?_
        rintro r w2 ⟨rfl, hb2⟩
        rw [cl_16]
        go_wp2_with fail
        go_ret
        exact ⟨ret_i (by rw [H.out, ← HZ.out]), hbw.trans (hb2.mono hbw.size)⟩
end Go.Proofs.YtmiakknagjncpaaGreatDoor
/- Walks of package demand: First, Test. -/
namespace Go.Proofs.YtmiakknagjncpaaGreatDoor
open Go.RowKit Go.Shelf

/-- What is known of those from z on. -/
def DwF (g : Int → Int) (h z r : Int) : Prop := (r = 0 ∧ ∀ i, z ≤ i → 1 ≤ i → i < h → g i ≤ i) ∨ (1 ≤ r ∧ z ≤ r ∧ r < h ∧ r < g r ∧ ∀ i, z ≤ i → 1 ≤ i → i < r → g i ≤ i)
theorem DwF.start (g : Int → Int) (h : Int) : DwF g h h 0 := .inl ⟨rfl, fun i _ _ _ => by omega⟩
theorem DwF.stop {g : Int → Int} {h z r : Int} (hd : DwF g h z r) (hz : z ≤ 1) : IsFst g h r := by
  rcases hd with ⟨rfl, h1⟩ | ⟨r0, r1, r2, r3, r4⟩
  · exact .inl ⟨rfl, fun i i0 i1 => h1 i (by omega) i0 i1⟩
  · exact .inr ⟨r0, r2, r3, fun i i0 i1 => r4 i (by omega) i0 i1⟩
theorem DwF.yes {g : Int → Int} {h z : Int} (hz : 2 ≤ z) (hh : z ≤ h) (hg : z - 1 < g (z - 1)) : DwF g h (z - 1) (z - 1) :=
  .inr ⟨by omega, by omega, by omega, hg, fun i i0 _ i1 => by omega⟩
theorem DwF.no {g : Int → Int} {h z r : Int} (hd : DwF g h z r) (hg : g (z - 1) ≤ z - 1) : DwF g h (z - 1) r := by
  rcases hd with ⟨rfl, h1⟩ | ⟨r0, r1, r2, r3, r4⟩
  · refine .inl ⟨rfl, fun i i0 i1 i2 => ?_⟩
    by_cases c : i = z - 1
    · subst c; exact hg
    · exact h1 i (by omega) i1 i2
  · refine .inr ⟨r0, by omega, r2, r3, fun i i0 i1 i2 => ?_⟩
    by_cases c : i = z - 1
    · subst c; exact hg
    · exact r4 i (by omega) i1 i2

set_option maxHeartbeats 4000000 in
set_option maxRecDepth 1000000 in
theorem first9_any (l : Nat) (f : Nat → Fx) (v : Value) (w : World) (h : Fxs w v l f) (hL : Lim w) :
    Calls Tryz.prog 49 #[v] w fun r w' => r = .returned (.int .i64 (first9 l f)) ∧ Below w.heap.size w w' := by
  have HF : Hid (Fxs w v l f) := h
  obtain ⟨g0, g1⟩ := hor9_nonneg l f
  obtain ⟨h9, hh⟩ : ∃ h9, hor9 l f = h9 := ⟨_, rfl⟩
  have HH : Hid (hor9 l f = h9) := hh
  rw [hh] at g0 g1
  clear hh
  have HHor := hor9_any l f v w h hL
  clear h hL
  go_enter Tryz.func49, Tryz.ntmps49
  go_wp2_with fail
  refine wp_scope_jumps 0 (fun a' w' => ∃ (z r : Int) (u5 u6 u7 u8 u9 u10 u11 u12 u13 u14 u15 u16 u17 : Value), a' = { tmps := #[v, undef, .int .i64 0, .int .i64 r, .int .i64 z, u5, u6, u7, u8, u9, u10, u11, u12, u13, u14, u15, u16, u17], defers := [] } ∧ 0 ≤ z ∧ z ≤ h9 ∧ 0 ≤ r ∧ r ≤ 384 ∧ Hid (DwF (allV9 l f) h9 z r) ∧ Below w.heap.size w w') (fun a' _ => (intOf (a'.tmps.getD 4 undef)).toNat) rfl ?_ ?_
  · go_wp2_with fail
    refine HHor.mono ?_
    rintro r9 w1 ⟨rfl, hb1⟩
    rw [HH.out]
    clear HHor
    have HD : Hid (DwF (allV9 l f) h9 h9 0) := DwF.start _ _
    go_wp2_with fail
    go_step3
    by_cases c1 : h9 - 1 < 1
    · have HR : Hid (first9 l f = 0) := first9_eq (by rw [HH.out]; exact DwF.stop HD.out (by omega))
      go_wp2_with fail
      simp only [Exit.jump]
      go_ret
      exact ⟨ret_i HR.out.symm, hb1⟩
    · go_wp2_with fail
      refine (all9_any l f (h9 - 1) v _ (HF.out.later hb1)).mono ?_
      rintro r9 w5 ⟨rfl, hb5⟩
      replace hb5 : Below w.heap.size w w5 := hb1.trans (hb5.mono hb1.size)
      obtain ⟨y, hy⟩ : ∃ y, allV9 l f (h9 - 1) = y := ⟨_, rfl⟩
      have HY : Hid (allV9 l f (h9 - 1) = y) := hy
      rw [hy]
      clear hy
      by_cases c2 : y > h9 - 1
      · have HD2 : Hid (DwF (allV9 l f) h9 (h9 - 1) (h9 - 1)) := DwF.yes (by omega) (by omega) (by rw [HY.out]; exact c2)
        go_wp2_with fail
        go_step3
        exact ⟨rfl, ⟨h9 - 1, h9 - 1, _, _, _, _, _, _, _, _, _, _, _, _, _, rfl, by omega, by omega, by omega, by omega, HD2.out, hb5⟩⟩
      · have HD2 : Hid (DwF (allV9 l f) h9 (h9 - 1) 0) := DwF.no HD.out (by rw [HY.out]; omega)
        go_wp2_with fail
        go_step3
        exact ⟨rfl, ⟨h9 - 1, 0, _, _, _, _, _, _, _, _, _, _, _, _, _, rfl, by omega, by omega, by omega, by omega, HD2.out, hb5⟩⟩
  · clear HHor
    rintro a' w1 ⟨z, r, u5, u6, u7, u8, u9, u10, u11, u12, u13, u14, u15, u16, u17, rfl, z0, z1, r0, r1, HD, hb1⟩
    by_cases c1 : z - 1 < 1
    · have HR : Hid (first9 l f = r) := first9_eq (by rw [HH.out]; exact DwF.stop HD.out (by omega))
      go_wp2_with fail
      simp only [Exit.jump]
      go_ret
      exact ⟨ret_i HR.out.symm, hb1⟩
    · go_wp2_with fail
      refine (all9_any l f (z - 1) v _ (HF.out.later hb1)).mono ?_
      rintro r9 w5 ⟨rfl, hb5⟩
      replace hb5 : Below w.heap.size w w5 := hb1.trans (hb5.mono hb1.size)
      obtain ⟨y, hy⟩ : ∃ y, allV9 l f (z - 1) = y := ⟨_, rfl⟩
      have HY : Hid (allV9 l f (z - 1) = y) := hy
      rw [hy]
      clear hy
      by_cases c2 : y > z - 1
      · have HD2 : Hid (DwF (allV9 l f) h9 (z - 1) (z - 1)) := DwF.yes (by omega) (by omega) (by rw [HY.out]; exact c2)
        go_wp2_with fail
        go_step3
        refine ⟨rfl, ⟨z - 1, z - 1, _, _, _, _, _, _, _, _, _, _, _, _, _, rfl, by omega, by omega, by omega, by omega, HD2.out, hb5⟩, ?_⟩
        simp [intOf]; omega
      · have HD2 : Hid (DwF (allV9 l f) h9 (z - 1) r) := DwF.no HD.out (by rw [HY.out]; omega)
        go_wp2_with fail
        go_step3
        refine ⟨rfl, ⟨z - 1, r, _, _, _, _, _, _, _, _, _, _, _, _, _, rfl, by omega, by omega, by omega, by omega, HD2.out, hb5⟩, ?_⟩
        simp [intOf]; omega

set_option maxHeartbeats 2000000 in
set_option maxRecDepth 100000 in
theorem test9_any (l : Nat) (f : Nat → Fx) (v : Value) (w : World) (h : Fxs w v l f) (hL : Lim w) :
    Calls Tryz.prog 28 #[v] w fun r w' => r = .returned (.bool (tst9 l f)) ∧ Below w.heap.size w w' := by
  cases hm : may9 l f with
  | false =>
    have HM : Hid (may9 l f = false) := hm
    have H : Hid (tst9 l f = false) := by show _ = _; unfold tst9; rw [hm]; rfl
    clear hm
    go_enter Tryz.func28, Tryz.ntmps28
    go_wp2_with fail
    refine (may9_any l f v _ h hL).mono ?_
    rintro r w1 ⟨rfl, hb1⟩
    rw [HM.out]
    go_wp2_with fail
    go_ret
    exact ⟨ret_b H.out.symm, hb1⟩
  | true =>
    have HM : Hid (may9 l f = true) := hm
    have H : Hid (tst9 l f = decide (first9 l f = 0)) := by show _ = _; unfold tst9; rw [hm]; rfl
    clear hm
    go_enter Tryz.func28, Tryz.ntmps28
    go_wp2_with fail
    refine (may9_any l f v _ h hL).mono ?_
    rintro r w1 ⟨rfl, hb1⟩
    rw [HM.out]
    go_wp2_with fail
    refine (first9_any l f v _ (h.later hb1) (hL.later hb1)).mono ?_
    rintro r w2 ⟨rfl, hb2⟩
    go_wp2_with fail
    go_ret
    exact ⟨ret_b (by rw [H.out]; first | rfl | simp), hb1.trans (hb2.mono hb1.size)⟩
end Go.Proofs.YtmiakknagjncpaaGreatDoor
/- Walks of the document's own answers of chapter 9: may, Of, All. -/
namespace Go.Proofs.YtmiakknagjncpaaGreatDoor
open Go.RowKit Go.Shelf
section
variable (c t x m k e p : Int)
set_option maxHeartbeats 2000000 in
set_option maxRecDepth 100000 in
theorem rmay9_any (w : World) :
    Calls Tryz.prog 55 #[.agg #[.int .i64 c, .int .i64 t, .int .i64 x, .int .i64 m, .int .i64 k, .int .i64 e, .int .i64 p]] w fun r w' => r = .returned (.bool (knB ⟨c, t, x, m, k, e, p⟩)) ∧ Below w.heap.size w w' := by
  have hS := Sev.new w c t x m k e p
  have hE : Hid (Below w.heap.size w (w.alloc (.cells #[.int .i64 c, .int .i64 t, .int .i64 x, .int .i64 m, .int .i64 k, .int .i64 e, .int .i64 p] 42))) := (Below.refl _ _).alloc (Nat.le_refl _) _
  cases h1 : maySp ⟨c, t, x, m, k, e⟩ with
  | false =>
    have H1 : Hid (maySp ⟨c, t, x, m, k, e⟩ = false) := h1
    have H : Hid (knB ⟨c, t, x, m, k, e, p⟩ = false) := by show _ = _; unfold knB Fx.sp; simp only; rw [h1]; rfl
    clear h1
    go_enter Tryz.func55, Tryz.ntmps55
    go_wp2_with fail
    refine (refSp_any c t x m k e _).mono ?_
    rintro r w1 ⟨rfl, hb1⟩
    rw [H1.out]
    go_wp2_with fail
    go_ret
    exact ⟨ret_b H.out.symm, hE.out.trans (hb1.mono hE.out.size)⟩
  | true =>
    have H1 : Hid (maySp ⟨c, t, x, m, k, e⟩ = true) := h1
    have H : Hid (knB ⟨c, t, x, m, k, e, p⟩ = decide (t ≤ p ∧ p ≤ x)) := by show _ = _; unfold knB Fx.sp; simp only; rw [h1]; rfl
    clear h1
    by_cases c0 : t ≤ p
    · have H2 : Hid (knB ⟨c, t, x, m, k, e, p⟩ = decide (p ≤ x)) := by show _ = _; rw [H.out]; simp [c0]
      go_enter Tryz.func55, Tryz.ntmps55
      go_wp2_with fail
      refine (refSp_any c t x m k e _).mono ?_
      rintro r w1 ⟨rfl, hb1⟩
      rw [H1.out]
      obtain ⟨a0, a1, a2, a3, a4, a5, a6⟩ := (hS.later hb1).fx
      go_wp2_with fail
      go_ret
      exact ⟨ret_b (by rw [H2.out]), hE.out.trans (hb1.mono hE.out.size)⟩
    · have H2 : Hid (knB ⟨c, t, x, m, k, e, p⟩ = false) := by show _ = _; rw [H.out]; simp [c0]
      go_enter Tryz.func55, Tryz.ntmps55
      go_wp2_with fail
      refine (refSp_any c t x m k e _).mono ?_
      rintro r w1 ⟨rfl, hb1⟩
      rw [H1.out]
      obtain ⟨a0, a1, a2, a3, a4, a5, a6⟩ := (hS.later hb1).fx
      go_wp2_with fail
      go_ret
      exact ⟨ret_b (by rw [H2.out]), hE.out.trans (hb1.mono hE.out.size)⟩

theorem refMost_bel (a b n : Int) (w : World) :
    Calls Tryz.prog 113 #[.int .i64 a, .int .i64 b, .int .i64 n] w fun r w' => r = .returned (.int .i64 (mostV a b n)) ∧ Below w.heap.size w w' := by
  refine (refMost_any a b n w).mono ?_
  rintro r w' ⟨rfl, rfl⟩
  exact ⟨rfl, Below.refl _ _⟩

set_option maxHeartbeats 2000000 in
set_option maxRecDepth 100000 in
theorem rof9_any (n : Int) (w : World) :
    Calls Tryz.prog 103 #[.agg #[.int .i64 c, .int .i64 t, .int .i64 x, .int .i64 m, .int .i64 k, .int .i64 e, .int .i64 p], .int .i64 n] w fun r w' => r = .returned (.int .i64 (ofV9 ⟨c, t, x, m, k, e, p⟩ n)) ∧ Below w.heap.size w w' := by
  have hS := Sev.new w c t x m k e p
  have hE : Hid (Below w.heap.size w (w.alloc (.cells #[.int .i64 c, .int .i64 t, .int .i64 x, .int .i64 m, .int .i64 k, .int .i64 e, .int .i64 p] 42))) := (Below.refl _ _).alloc (Nat.le_refl _) _
  cases h1 : knB ⟨c, t, x, m, k, e, p⟩ with
  | false =>
    have H1 : Hid (knB ⟨c, t, x, m, k, e, p⟩ = false) := h1
    have H : Hid (ofV9 ⟨c, t, x, m, k, e, p⟩ n = 0) := of9_no (by unfold ofB9; rw [h1]; rfl)
    clear h1
    go_enter Tryz.func103, Tryz.ntmps103
    go_wp2_with fail
    refine (rmay9_any c t x m k e p _).mono ?_
    rintro r w1 ⟨rfl, hb1⟩
    rw [H1.out]
    go_wp2_with fail
    go_ret
    exact ⟨ret_i H.out.symm, hE.out.trans (hb1.mono hE.out.size)⟩
  | true =>
    have H1 : Hid (knB ⟨c, t, x, m, k, e, p⟩ = true) := h1
    by_cases h2 : 0 ≤ n ∧ n ≤ 1099511627776
    · obtain ⟨n0, n1⟩ := h2
      obtain ⟨_, c0, c1, c2, p0, p1, x1, m0, m1, k1⟩ := kn_facts h1
      simp only at c0 c1 c2 p0 p1 x1 m0 m1 k1
      have hd : 0 ≤ n / p := Int.ediv_nonneg n0 (by omega)
      have hd1 : n / p ≤ n := Int.ediv_le_self _ n0
      have e1 := of9_yes h1 n0 n1
      simp only at e1
      have hbd := of_bd ⟨c, t, x, m, k, e, p⟩ n
      have q0 : mostV m k (n / p) = du m k (n / p) := mostV_in m0 m1 k1 hd (by omega)
      obtain ⟨d, hdd⟩ : ∃ d, du m k (n / p) = d := ⟨_, rfl⟩
      rw [hdd] at e1 q0
      rw [e1] at hbd
      have H : Hid (ofV9 ⟨c, t, x, m, k, e, p⟩ n = c * d) := e1
      have HM : Hid (mostV m k (n / p) = d) := q0
      obtain ⟨b0, b1, _⟩ := hbd
      have hw : IntKind.i64.wrap (c * d) = c * d := by rw [IntKind.wrap_i64]; omega
      have hp0 : 0 < p := by omega
      have hp1 : p ≠ 0 := by omega
      have hdiv : n.tdiv p = n / p := Int.tdiv_eq_ediv_of_nonneg n0
      obtain ⟨j, hj⟩ : ∃ j, n / p = j := ⟨_, rfl⟩
      rw [hj] at hdiv HM hd hd1
      have hw1 : IntKind.i64.wrap j = j := by rw [IntKind.wrap_i64]; omega
      have hbeq : (p == 0) = false := by simp [hp1]
      clear h1 e1 q0 hdd hj
      go_enter Tryz.func103, Tryz.ntmps103
      go_wp2_with fail
      refine (rmay9_any c t x m k e p _).mono ?_
      rintro r w2 ⟨rfl, hb2⟩
      rw [H1.out]
      have hS2 := hS.later hb2
      replace hb2 : Below w.heap.size w w2 := hE.out.trans (hb2.mono hE.out.size)
      have MK : Hid (∀ w' : World, Below w2.heap.size w2 w' → (w'.cell? ⟨w.heap.size, 0, none⟩ = some (.int .i64 c) ∧ w'.cell? ⟨w.heap.size, 1, none⟩ = some (.int .i64 t) ∧ w'.cell? ⟨w.heap.size, 2, none⟩ = some (.int .i64 x) ∧ w'.cell? ⟨w.heap.size, 3, none⟩ = some (.int .i64 m) ∧ w'.cell? ⟨w.heap.size, 4, none⟩ = some (.int .i64 k) ∧ w'.cell? ⟨w.heap.size, 5, none⟩ = some (.int .i64 e) ∧ w'.cell? ⟨w.heap.size, 6, none⟩ = some (.int .i64 p)) ∧ Below w2.heap.size w2 w') := fun w' hb => ⟨(hS2.later hb).fx, hb⟩
      clear hS2 hS
      go_wp2_with fail
      go_region_held3 (fun w' => (w'.cell? ⟨w.heap.size, 0, none⟩ = some (.int .i64 c) ∧ w'.cell? ⟨w.heap.size, 1, none⟩ = some (.int .i64 t) ∧ w'.cell? ⟨w.heap.size, 2, none⟩ = some (.int .i64 x) ∧ w'.cell? ⟨w.heap.size, 3, none⟩ = some (.int .i64 m) ∧ w'.cell? ⟨w.heap.size, 4, none⟩ = some (.int .i64 k) ∧ w'.cell? ⟨w.heap.size, 5, none⟩ = some (.int .i64 e) ∧ w'.cell? ⟨w.heap.size, 6, none⟩ = some (.int .i64 p)) ∧ Below w2.heap.size w2 w')
        (first | exact MK.out _ (bstep (by assumption) (sBel (by assumption))) | exact MK.out _ (Below.refl _ _).drew)
        (first
        | (go_at_call 113; refine (refMost_bel m k j _).mono ?_; rintro r w3 ⟨rfl, hb3⟩; rw [HM.out]))
      all_goals
        go_wp2
        go_ret
        exact ⟨ret_i H.out.symm, hb2.trans ((sBel (by assumption)).mono hb2.size)⟩
    · have H : Hid (ofV9 ⟨c, t, x, m, k, e, p⟩ n = 0) := of9_no (by unfold ofB9; rw [show wiB n 0 1099511627776 = false from decide_eq_false h2]; simp)
      clear h1
      by_cases h3 : n < 0
      · go_enter Tryz.func103, Tryz.ntmps103
        go_wp2_with fail
        refine (rmay9_any c t x m k e p _).mono ?_
        rintro r w1 ⟨rfl, hb1⟩
        rw [H1.out]
        go_wp2_with fail
        go_ret
        exact ⟨ret_i H.out.symm, hE.out.trans (hb1.mono hE.out.size)⟩
      · have h4 : n > 1099511627776 := by omega
        clear h2
        go_enter Tryz.func103, Tryz.ntmps103
        go_wp2_with fail
        refine (rmay9_any c t x m k e p _).mono ?_
        rintro r w1 ⟨rfl, hb1⟩
        rw [H1.out]
        go_wp2_with fail
        go_ret
        exact ⟨ret_i H.out.symm, hE.out.trans (hb1.mono hE.out.size)⟩
end

set_option maxHeartbeats 2000000 in
set_option maxRecDepth 100000 in
theorem rall9_any (l : Nat) (f : Nat → Fx) (n : Int) (v : Value) (w : World) (h : Fxs w v l f) :
    Calls Tryz.prog 74 #[v, .int .i64 n] w fun r w' => r = .returned (.int .i64 (allV9 l f n)) ∧ Below w.heap.size w w' := by
  obtain ⟨a, cap, rfl, h1, h2, h0, h3⟩ := h
  by_cases hl : (l : Int) ≤ 1000
  · have H : Hid (allV9 l f n = allS l f n) := all9_in (by omega)
    go_enter Tryz.func74, Tryz.ntmps74
    go_wp2_with fail
    go_loopw [5, 6] (fun s i wr => ∃ (j : Nat) (z : Int), j ≤ l ∧ i = .int .i64 j ∧ s = .int .i64 z ∧ 0 ≤ z ∧ z ≤ j * 1099511627776 ∧ Hid (z = allS j f n) ∧ Below w.heap.size w wr) (fun _ i _ => ((l : Int) - intOf i).toNat)
    case atStart => exact ⟨0, 0, by omega, rfl, rfl, by omega, by omega, rfl, Below.refl _ _⟩
    case round =>
      obtain ⟨j, z, hj, rfl, rfl, z0, z1, HZ, hbw⟩ := hrel
      by_cases hlt : (j : Int) < l
      · obtain ⟨bk, o, rfl, h4⟩ := h3 (by omega)
        have hrow := row_open (f := f j) (h4 j (by omega))
        clear h4 h3
        obtain ⟨⟨cj, tj, xj, mj, kj, ej, pj⟩, hf⟩ : ∃ y, f j = y := ⟨_, rfl⟩
        have HF : Hid (f j = ⟨cj, tj, xj, mj, kj, ej, pj⟩) := hf
        rw [hf] at hrow
        clear hf
        obtain ⟨k0, k1, k2, k3, k4, k5, k6⟩ := hrow
        simp only at k0 k1 k2 k3 k4 k5 k6
        have e0 := cell_later hbw k0
        have e1 := cell_later hbw k1
        have e2 := cell_later hbw k2
        have e3 := cell_later hbw k3
        have e4 := cell_later hbw k4
        have e5 := cell_later hbw k5
        have e6 := cell_later hbw k6
        have sb := World.block_lt_of_cell? _ _ k0
        clear k0 k1 k2 k3 k4 k5 k6
        have sw := hbw.size
        go_wp2_with fail
        refine (rof9_any cj tj xj mj kj ej pj n _).mono ?_
        rintro r w2 ⟨rfl, hb2⟩
        have hb : Below w.heap.size w w2 := hbw.trans (hb2.mono sw)
        obtain ⟨b0, b1, _⟩ := of_bd ⟨cj, tj, xj, mj, kj, ej, pj⟩ n
        have HS : Hid (z + ofV9 ⟨cj, tj, xj, mj, kj, ej, pj⟩ n = allS (j + 1) f n) := by show _ = _; rw [allS_succ, HF.out, ← HZ.out]
        generalize ofV9 ⟨cj, tj, xj, mj, kj, ej, pj⟩ n = y at *
        clear hb2
        go_wp2_with fail
        go_roundw
        case rel => exact ⟨j + 1, z + y, by omega, by go_num, by go_num, by omega, by omega, HS.out, hb⟩
        case measure => simp [intOf]; omega
      · obtain rfl : j = l := by omega
        go_wp2
        go_ret
        exact ⟨ret_i (by rw [H.out]; exact HZ.out), hbw⟩
  · have H : Hid (allV9 l f n = 0) := if_neg (by omega)
    clear h3
    go_enter Tryz.func74, Tryz.ntmps74
    go_wp2_with fail
    go_loopw [5, 6] (fun s i wr => i = .int .i64 0 ∧ s = .int .i64 0 ∧ Below w.heap.size w wr) (fun _ _ _ => 0)
    case atStart => exact ⟨rfl, rfl, Below.refl _ _⟩
    case round =>
      obtain ⟨rfl, rfl, hbw⟩ := hrel
      have hp : (0 : Int) < l := by omega
      go_wp2
      go_ret
      exact ⟨ret_i H.out.symm, hbw⟩
end Go.Proofs.YtmiakknagjncpaaGreatDoor
