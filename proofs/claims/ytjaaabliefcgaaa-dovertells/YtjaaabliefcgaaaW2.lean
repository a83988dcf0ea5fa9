/- Walks of frac's products: two words, the upper one first, and how they are ordered. -/
import Derived.Test.YtjaaabliefcgaaaW1
import Derived.ChangeKeysEq
import Derived.Lib.Mul64
namespace Go.Proofs.Ytjaaabliefcgaaa
open Go.RowKit

/-- The upper and the lower word of a number. -/
def hiW (x : Int) : Int := x / 18446744073709551616
def loW (x : Int) : Int := x % 18446744073709551616

/-- How two numbers of two words stand, word by word. -/
def lex (a b c d : Int) : Int := if a = c ∧ b = d then 0 else if a < c ∨ a = c ∧ b < d then -1 else 1

/-- How two numbers stand. -/
def sgn (x y : Int) : Int := if x = y then 0 else if x < y then -1 else 1

theorem lex_words (x y : Int) : lex (hiW x) (loW x) (hiW y) (loW y) = sgn x y := by
  unfold lex sgn hiW loW
  by_cases h1 : x = y
  · subst h1; simp
  · rw [if_neg (by omega), if_neg h1]
    by_cases h2 : x < y
    · rw [if_pos (by omega), if_pos h2]
    · rw [if_neg (by omega), if_neg h2]

theorem maskI (x : Int) (h0 : 0 ≤ x) (h : x < 18446744073709551616) : bits .and .u64 x 4294967295 = x % 4294967296 := by
  obtain ⟨n, rfl⟩ := Int.eq_ofNat_of_zero_le h0
  have e := bits_and_u64_nat n 4294967295 (by omega) (by omega)
  have e2 : n &&& 4294967295 = n % 4294967296 := Nat.and_two_pow_sub_one_eq_mod n 32
  rw [e2] at e
  have e3 : bits .and .u64 (n : Int) ((4294967295 : Nat) : Int) = ((n % 4294967296 : Nat) : Int) := e
  rw [Int.natCast_emod] at e3
  exact e3

theorem maskW (z : Int) : bits .and .u64 (IntKind.u64.wrap z) 4294967295 = IntKind.u64.wrap z % 4294967296 := by
  rw [IntKind.wrap_u64]; exact maskI _ (by omega) (by omega)

theorem half_prod {a b : Int} (ha0 : 0 ≤ a) (ha : a ≤ 4294967295) (hb0 : 0 ≤ b) (hb : b ≤ 4294967295) : 0 ≤ a * b ∧ a * b ≤ 18446744065119617025 :=
  ⟨Int.mul_nonneg ha0 hb0, by have := Int.mul_le_mul ha hb hb0 (by omega); omega⟩

theorem school (x y : Int) : x * y = x / 4294967296 * (y / 4294967296) * 18446744073709551616 + (x / 4294967296 * (y % 4294967296) + x % 4294967296 * (y / 4294967296)) * 4294967296 + x % 4294967296 * (y % 4294967296) := by
  have ex : x = x / 4294967296 * 4294967296 + x % 4294967296 := by omega
  have ey : y = y / 4294967296 * 4294967296 + y % 4294967296 := by omega
  generalize x / 4294967296 = p at *
  generalize x % 4294967296 = q at *
  generalize y / 4294967296 = r at *
  generalize y % 4294967296 = s at *
  subst ex ey
  rw [Int.add_mul, Int.mul_add, Int.mul_add, Int.add_mul]
  have e1 : p * 4294967296 * (r * 4294967296) = p * r * 18446744073709551616 := by
    rw [Int.mul_assoc, Int.mul_left_comm 4294967296 r 4294967296, Int.mul_assoc p r]; rfl
  have e2 : p * 4294967296 * s = p * s * 4294967296 := by rw [Int.mul_right_comm]
  have e3 : q * (r * 4294967296) = q * r * 4294967296 := by rw [Int.mul_assoc]
  rw [e1, e2, e3]
  omega

theorem mul_hi (x y : Int) (hx0 : 0 ≤ x) (hx : x < 18446744073709551616) (hy0 : 0 ≤ y) (hy : y < 18446744073709551616) :
    IntKind.u64.wrap (IntKind.u64.wrap (IntKind.u64.wrap (x / 4294967296 * (y / 4294967296)) + IntKind.u64.wrap (IntKind.u64.wrap (x / 4294967296 * bits BinOp.and IntKind.u64 y 4294967295) + IntKind.u64.wrap (bits BinOp.and IntKind.u64 x 4294967295 * bits BinOp.and IntKind.u64 y 4294967295) / 4294967296) / 4294967296) + IntKind.u64.wrap (bits BinOp.and IntKind.u64 (IntKind.u64.wrap (IntKind.u64.wrap (x / 4294967296 * bits BinOp.and IntKind.u64 y 4294967295) + IntKind.u64.wrap (bits BinOp.and IntKind.u64 x 4294967295 * bits BinOp.and IntKind.u64 y 4294967295) / 4294967296)) 4294967295 + IntKind.u64.wrap (bits BinOp.and IntKind.u64 x 4294967295 * (y / 4294967296))) / 4294967296) = hiW (x * y) := by
  simp only [maskI x hx0 hx, maskI y hy0 hy, maskW]
  unfold hiW
  rw [school x y]
  have ha := half_prod (a := x / 4294967296) (b := y / 4294967296) (by omega) (by omega) (by omega) (by omega)
  have hb := half_prod (a := x / 4294967296) (b := y % 4294967296) (by omega) (by omega) (by omega) (by omega)
  have hc := half_prod (a := x % 4294967296) (b := y / 4294967296) (by omega) (by omega) (by omega) (by omega)
  have hd := half_prod (a := x % 4294967296) (b := y % 4294967296) (by omega) (by omega) (by omega) (by omega)
  generalize x / 4294967296 * (y / 4294967296) = p at *
  generalize x / 4294967296 * (y % 4294967296) = q at *
  generalize x % 4294967296 * (y / 4294967296) = r at *
  generalize x % 4294967296 * (y % 4294967296) = s at *
  clear hx0 hx hy0 hy
  simp only [IntKind.wrap_u64]
  omega

theorem mul_lo (x y : Int) : IntKind.u64.wrap (x * y) = loW (x * y) := by rw [IntKind.wrap_u64]; rfl

set_option maxHeartbeats 1000000 in
set_option maxRecDepth 100000 in
theorem mul64_any (x y : Int) (w : World) (hx0 : 0 ≤ x) (hx : x ≤ 4611686018427387904) (hy0 : 0 ≤ y) (hy : y ≤ 4611686018427387904) :
    Calls Try.prog 44 #[.int .u64 x, .int .u64 y] w fun e w' => e = .returned (.tuple #[.int .u64 (hiW (x * y)), .int .u64 (loW (x * y))]) ∧ w' = w := by
  have HH : Hid _ := mul_hi x y hx0 (by omega) hy0 (by omega)
  have HL : Hid _ := mul_lo x y
  go_enter Try.func44, Try.ntmps44
  go_wp2
  go_ret2
  exact ⟨ret_ii HH.out HL.out, rfl⟩

theorem eq39 (a b c d : Int) (w : World) : (Op.equalIn 10000 54 (.agg #[.int .u64 a, .int .u64 b]) (.agg #[.int .u64 c, .int .u64 d])).run Try.prog w = .ok (a == c && b == d) w := by
  have hu : Try.prog.underlying 52 = some (.int .u64) := by kernel_rfl
  have hp : Try.prog.plainKey 52 = true := by kernel_rfl
  have hc : Try.prog.cellsOf 52 = 1 := by kernel_rfl
  obtain ⟨i, hi⟩ := Option.isSome_iff_exists.mp (show (Try.prog.info? 52).isSome = true by kernel_rfl)
  rw [show (10000 : Nat) = 9999 + 1 from rfl, run_equalIn_array (n := 2) (e := 52) w 9999 _ _ (by kernel_rfl) hi, hc]
  have p0 := fun (x y : Int) => run_part_plain w hp (xs := #[.int .u64 x, .int .u64 y]) (off := 0) (v := .int .u64 x) rfl
  have p1 := fun (x y : Int) => run_part_plain w hp (xs := #[.int .u64 x, .int .u64 y]) (off := 1) (v := .int .u64 y) rfl
  have q := fun (x y : Int) => run_equalIn_int w 9998 52 .u64 .u64 x y hu
  simp only [List.range, List.range.loop, Op.eqItems, Sem.run_bind, Nat.zero_mul, Nat.one_mul, p0, Result.andThen_ok, q]
  cases hac : (a == c)
  · simp
  · simp only [Bool.not_true, Bool.false_eq_true, if_false, Sem.run_bind, p1, Result.andThen_ok, q, Bool.true_and]
    cases hbd : (b == d) <;> simp

theorem lex0 (a b : Int) : lex a b a b = 0 := by unfold lex; simp
theorem lex1 {a b c d : Int} (h : a < c) : lex a b c d = -1 := by unfold lex; rw [if_neg (by omega), if_pos (by omega)]
theorem lex2 {a b d : Int} (h : b < d) : lex a b a d = -1 := by unfold lex; rw [if_neg (by omega), if_pos (by omega)]
theorem lex3 {a b d : Int} (h : d < b) : lex a b a d = 1 := by unfold lex; rw [if_neg (by omega), if_neg (by omega)]
theorem lex4 {a b c d : Int} (h : c < a) : lex a b c d = 1 := by unfold lex; rw [if_neg (by omega), if_neg (by omega)]

set_option maxHeartbeats 1000000 in
set_option maxRecDepth 100000 in
theorem order_any (a b c d : Int) (w : World) :
    Calls Try.prog 38 #[.agg #[.int .u64 a, .int .u64 b], .agg #[.int .u64 c, .int .u64 d]] w fun e w' => e = .returned (.int .i64 (lex a b c d)) ∧ Below w.heap.size w w' := by
  rcases Int.lt_trichotomy a c with hlt | rfl | hgt
  · have h39 : ∀ w, (Op.equalIn 10000 54 (.agg #[.int .u64 a, .int .u64 b]) (.agg #[.int .u64 c, .int .u64 d])).run Try.prog w = .ok false w := by
      intro w; rw [eq39, show (a == c) = false from by simp; omega]; rfl
    have HL : Hid (lex a b c d = -1) := lex1 hlt
    go_enter Try.func38, Try.ntmps38
    go_wp2
    go_ret
    exact ⟨ret_i HL.out.symm, by repeat (first | exact Below.refl _ _ | refine Below.alloc ?_ (by simp <;> omega) _)⟩
  · rcases Int.lt_trichotomy b d with hlt | rfl | hgt
    · have h39 : ∀ w, (Op.equalIn 10000 54 (.agg #[.int .u64 a, .int .u64 b]) (.agg #[.int .u64 a, .int .u64 d])).run Try.prog w = .ok false w := by
        intro w; rw [eq39, show (b == d) = false from by simp; omega, Bool.and_false]
      have hle : ¬ a < a := by omega
      have haa : (a == a) = true := by simp
      have HL : Hid (lex a b a d = -1) := lex2 hlt
      go_enter Try.func38, Try.ntmps38
      go_wp2
      go_ret
      exact ⟨ret_i HL.out.symm, by repeat (first | exact Below.refl _ _ | refine Below.alloc ?_ (by simp <;> omega) _)⟩
    · have h39 : ∀ w, (Op.equalIn 10000 54 (.agg #[.int .u64 a, .int .u64 b]) (.agg #[.int .u64 a, .int .u64 b])).run Try.prog w = .ok true w := by
        intro w; rw [eq39]; simp
      have HL : Hid (lex a b a b = 0) := lex0 a b
      go_enter Try.func38, Try.ntmps38
      go_wp2
      go_ret
      exact ⟨ret_i HL.out.symm, by repeat (first | exact Below.refl _ _ | refine Below.alloc ?_ (by simp <;> omega) _)⟩
    · have h39 : ∀ w, (Op.equalIn 10000 54 (.agg #[.int .u64 a, .int .u64 b]) (.agg #[.int .u64 a, .int .u64 d])).run Try.prog w = .ok false w := by
        intro w; rw [eq39, show (b == d) = false from by simp; omega, Bool.and_false]
      have hle : ¬ a < a := by omega
      have haa : (a == a) = true := by simp
      have hbd : ¬ b < d := by omega
      have HL : Hid (lex a b a d = 1) := lex3 hgt
      go_enter Try.func38, Try.ntmps38
      go_wp2
      go_ret
      exact ⟨ret_i HL.out.symm, by repeat (first | exact Below.refl _ _ | refine Below.alloc ?_ (by simp <;> omega) _)⟩
  · have h39 : ∀ w, (Op.equalIn 10000 54 (.agg #[.int .u64 a, .int .u64 b]) (.agg #[.int .u64 c, .int .u64 d])).run Try.prog w = .ok false w := by
      intro w; rw [eq39, show (a == c) = false from by simp; omega]; rfl
    have hle : ¬ a < c := by omega
    have hac : (a == c) = false := by simp; omega
    have HL : Hid (lex a b c d = 1) := lex4 hgt
    go_enter Try.func38, Try.ntmps38
    go_wp2
    go_ret
    exact ⟨ret_i HL.out.symm, by repeat (first | exact Below.refl _ _ | refine Below.alloc ?_ (by simp <;> omega) _)⟩

set_option maxHeartbeats 1000000 in
set_option maxRecDepth 100000 in
theorem product_any (a b : Int) (w : World) (ha0 : 0 ≤ a) (ha : a ≤ 4611686018427387904) (hb0 : 0 ≤ b) (hb : b ≤ 4611686018427387904) :
    Calls Try.prog 37 #[.int .i64 a, .int .i64 b] w fun e w' => e = .returned (.agg #[.int .u64 (hiW (a * b)), .int .u64 (loW (a * b))]) ∧ Below w.heap.size w w' := by
  go_enter Try.func37, Try.ntmps37
  go_wp2_with (go_at_call 44; refine (mul64_any _ _ _ ha0 ha hb0 hb).mono ?_; rintro e w' ⟨rfl, rfl⟩)
  exact bodyPost_ret (v := .agg #[.int .u64 (hiW (a * b)), .int .u64 (loW (a * b))]) (by simp [results, Try.results37, go_sem]) rfl ⟨rfl, by repeat (first | exact Below.refl _ _ | refine Below.alloc ?_ (by simp <;> omega) _)⟩
end Go.Proofs.Ytjaaabliefcgaaa
