/- Texts that belong together, one behind the other: W1, W2, W3, W6, A1, A2, M1, A5, R1, R8, V1, S4, H2, V3, K1, K5, E1, E2, E3, E4, E7. -/
import Derived.Test.YtmiakknagjncpaaGreatDoorRows
import Derived.WalkKit
import Derived.WalkSpells
import Derived.Below
import Derived.ChangeKeysEq
import Derived.Lib.Mul64
import Derived.Deep.RegionWith
import Derived.ProofKit
import Derived.OpenShut
import Derived.Carry
import Derived.Lib.SmallJoins
import Derived.Deep.Grids
import Derived.Deep.RegionHeld3
import Derived.BigRegion
import Derived.Deep.SlicePairs
import Derived.Laws.OwnMore
import Derived.Deep.AppendLies
import Derived.OwnWalk
import Derived.Deep.RegionLaw
import Derived.Laws.AppendOwnNone
import Derived.Lib.SliceRun
import Derived.Laws.StructEq
import Derived.BigQuiet
import Derived.Deep.QuietTactic
import Derived.Laws.EntriesVeiled
import Derived.Deep.WholeRow
/- Walks of frac's quotients: Floor and Ceil answer as chapter 1 says, for all arguments; so do the document's own. -/
namespace Go.Proofs.YtmiakknagjncpaaGreatDoor
open Go.RowKit

/-- What is rounded up. -/
def cl (a b : Int) : Int := if a % b = 0 then a / b else a / b + 1

/-- Two numbers that have quotients. -/
def okq (a b : Int) : Prop := 0 ≤ a ∧ a ≤ 4611686018427387904 ∧ 1 ≤ b ∧ b ≤ 4611686018427387904

theorem ret_ib {k : IntKind} {a b : Int} {x y : Bool} (h : a = b) (h' : x = y) : Ending.returned (.tuple #[.int k a, .bool x]) = .returned (.tuple #[.int k b, .bool y]) := by rw [h, h']
theorem ret_i {k : IntKind} {a b : Int} (h : a = b) : Ending.returned (.int k a) = .returned (.int k b) := by rw [h]
theorem ret_b {a b : Bool} (h : a = b) : Ending.returned (.bool a) = .returned (.bool b) := by rw [h]
theorem ret_ii {k l : IntKind} {a b c d : Int} (h : a = b) (h' : c = d) : Ending.returned (.tuple #[.int k a, .int l c]) = .returned (.tuple #[.int k b, .int l d]) := by rw [h, h']

theorem cl_eq0 {a b : Int} (h : (a % b == 0) = true) : cl a b = a / b := by
  unfold cl; rw [if_pos (by simpa using h)]
theorem cl_eq1 {a b : Int} (h : (a % b == 0) = false) : cl a b = a / b + 1 := by
  unfold cl; rw [if_neg (by simpa using h)]

set_option maxHeartbeats 1000000 in
set_option maxRecDepth 100000 in
theorem floor_yes (a b : Int) (w : World) (ha0 : 0 ≤ a) (ha : a ≤ 4611686018427387904) (hb0 : 1 ≤ b) (hb : b ≤ 4611686018427387904) :
    Calls Tryz.prog 111 #[.int .i64 a, .int .i64 b] w fun e w' => e = .returned (.tuple #[.int .i64 (a / b), .bool true]) ∧ Below w.heap.size w w' := by
  go_enter Tryz.func111, Tryz.ntmps111
  go_wp2
  go_ret2
  exact ⟨rfl, by repeat (first | exact Below.refl _ _ | refine Below.alloc ?_ (by simp <;> omega) _)⟩

set_option maxHeartbeats 1000000 in
set_option maxRecDepth 100000 in
theorem ceil_yes (a b : Int) (w : World) (ha0 : 0 ≤ a) (ha : a ≤ 4611686018427387904) (hb0 : 1 ≤ b) (hb : b ≤ 4611686018427387904) :
    Calls Tryz.prog 58 #[.int .i64 a, .int .i64 b] w fun e w' => e = .returned (.tuple #[.int .i64 (cl a b), .bool true]) ∧ Below w.heap.size w w' := by
  have q0 : 0 ≤ a / b := Int.ediv_nonneg ha0 (by omega)
  have q1 : a / b ≤ a := Int.ediv_le_self _ ha0
  cases hm : (a % b == 0)
  · have HC : Hid (cl a b = a / b + 1) := cl_eq1 hm
    go_enter Tryz.func58, Tryz.ntmps58
    go_wp2
    go_ret2
    exact ⟨ret_ib HC.out.symm rfl, by repeat (first | exact Below.refl _ _ | refine Below.alloc ?_ (by simp <;> omega) _)⟩
  · have HC : Hid (cl a b = a / b) := cl_eq0 hm
    go_enter Tryz.func58, Tryz.ntmps58
    go_wp2
    go_ret2
    exact ⟨ret_ib HC.out.symm rfl, by repeat (first | exact Below.refl _ _ | refine Below.alloc ?_ (by simp <;> omega) _)⟩
end Go.Proofs.YtmiakknagjncpaaGreatDoor
/- Walks of frac's products: two words, the upper one first, and how they are ordered. -/
namespace Go.Proofs.YtmiakknagjncpaaGreatDoor
open Go.RowKit

/-- The upper and the lower word of a number. -/
def hiW (x : Int) : Int := x / 18446744073709551616
def loW (x : Int) : Int := x % 18446744073709551616

/-- How two numbers of two words stand, word by word. -/
def lex (a b c d : Int) : Int := if a = c ∧ b = d then 0 else if a < c ∨ a = c ∧ b < d then -1 else 1

/-- How two numbers stand. -/
def sgn (x y : Int) : Int := if x = y then 0 else if x < y then -1 else 1

theorem lex_words (x y : Int) : lex (hiW x) (loW x) (hiW y) (loW y) = sgn x y := by
  unfold lex sgn hiW loW
  by_cases h1 : x = y
  · subst h1; simp
  · rw [if_neg (by omega), if_neg h1]
    by_cases h2 : x < y
    · rw [if_pos (by omega), if_pos h2]
    · rw [if_neg (by omega), if_neg h2]

theorem maskI (x : Int) (h0 : 0 ≤ x) (h : x < 18446744073709551616) : bits .and .u64 x 4294967295 = x % 4294967296 := by
  obtain ⟨n, rfl⟩ := Int.eq_ofNat_of_zero_le h0
  have e := bits_and_u64_nat n 4294967295 (by omega) (by omega)
  have e2 : n &&& 4294967295 = n % 4294967296 := Nat.and_two_pow_sub_one_eq_mod n 32
  rw [e2] at e
  have e3 : bits .and .u64 (n : Int) ((4294967295 : Nat) : Int) = ((n % 4294967296 : Nat) : Int) := e
  rw [Int.natCast_emod] at e3
  exact e3

theorem maskW (z : Int) : bits .and .u64 (IntKind.u64.wrap z) 4294967295 = IntKind.u64.wrap z % 4294967296 := by
  rw [IntKind.wrap_u64]; exact maskI _ (by omega) (by omega)

theorem half_prod {a b : Int} (ha0 : 0 ≤ a) (ha : a ≤ 4294967295) (hb0 : 0 ≤ b) (hb : b ≤ 4294967295) : 0 ≤ a * b ∧ a * b ≤ 18446744065119617025 :=
  ⟨Int.mul_nonneg ha0 hb0, by have := Int.mul_le_mul ha hb hb0 (by omega); omega⟩

theorem school (x y : Int) : x * y = x / 4294967296 * (y / 4294967296) * 18446744073709551616 + (x / 4294967296 * (y % 4294967296) + x % 4294967296 * (y / 4294967296)) * 4294967296 + x % 4294967296 * (y % 4294967296) := by
  have ex : x = x / 4294967296 * 4294967296 + x % 4294967296 := by omega
  have ey : y = y / 4294967296 * 4294967296 + y % 4294967296 := by omega
  generalize x / 4294967296 = p at *
  generalize x % 4294967296 = q at *
  generalize y / 4294967296 = r at *
  generalize y % 4294967296 = s at *
  subst ex ey
  rw [Int.add_mul, Int.mul_add, Int.mul_add, Int.add_mul]
  have e1 : p * 4294967296 * (r * 4294967296) = p * r * 18446744073709551616 := by
    rw [Int.mul_assoc, Int.mul_left_comm 4294967296 r 4294967296, Int.mul_assoc p r]; rfl
  have e2 : p * 4294967296 * s = p * s * 4294967296 := by rw [Int.mul_right_comm]
  have e3 : q * (r * 4294967296) = q * r * 4294967296 := by rw [Int.mul_assoc]
  rw [e1, e2, e3]
  omega

theorem mul_hi (x y : Int) (hx0 : 0 ≤ x) (hx : x < 18446744073709551616) (hy0 : 0 ≤ y) (hy : y < 18446744073709551616) :
    IntKind.u64.wrap (IntKind.u64.wrap (IntKind.u64.wrap (x / 4294967296 * (y / 4294967296)) + IntKind.u64.wrap (IntKind.u64.wrap (x / 4294967296 * bits BinOp.and IntKind.u64 y 4294967295) + IntKind.u64.wrap (bits BinOp.and IntKind.u64 x 4294967295 * bits BinOp.and IntKind.u64 y 4294967295) / 4294967296) / 4294967296) + IntKind.u64.wrap (bits BinOp.and IntKind.u64 (IntKind.u64.wrap (IntKind.u64.wrap (x / 4294967296 * bits BinOp.and IntKind.u64 y 4294967295) + IntKind.u64.wrap (bits BinOp.and IntKind.u64 x 4294967295 * bits BinOp.and IntKind.u64 y 4294967295) / 4294967296)) 4294967295 + IntKind.u64.wrap (bits BinOp.and IntKind.u64 x 4294967295 * (y / 4294967296))) / 4294967296) = hiW (x * y) := by
  simp only [maskI x hx0 hx, maskI y hy0 hy, maskW]
  unfold hiW
  rw [school x y]
  have ha := half_prod (a := x / 4294967296) (b := y / 4294967296) (by omega) (by omega) (by omega) (by omega)
  have hb := half_prod (a := x / 4294967296) (b := y % 4294967296) (by omega) (by omega) (by omega) (by omega)
  have hc := half_prod (a := x % 4294967296) (b := y / 4294967296) (by omega) (by omega) (by omega) (by omega)
  have hd := half_prod (a := x % 4294967296) (b := y % 4294967296) (by omega) (by omega) (by omega) (by omega)
  generalize x / 4294967296 * (y / 4294967296) = p at *
  generalize x / 4294967296 * (y % 4294967296) = q at *
  generalize x % 4294967296 * (y / 4294967296) = r at *
  generalize x % 4294967296 * (y % 4294967296) = s at *
  clear hx0 hx hy0 hy
  simp only [IntKind.wrap_u64]
  omega

theorem mul_lo (x y : Int) : IntKind.u64.wrap (x * y) = loW (x * y) := by rw [IntKind.wrap_u64]; rfl

set_option maxHeartbeats 1000000 in
set_option maxRecDepth 100000 in
theorem mul64_any (x y : Int) (w : World) (hx0 : 0 ≤ x) (hx : x ≤ 4611686018427387904) (hy0 : 0 ≤ y) (hy : y ≤ 4611686018427387904) :
    Calls Tryz.prog 121 #[.int .u64 x, .int .u64 y] w fun e w' => e = .returned (.tuple #[.int .u64 (hiW (x * y)), .int .u64 (loW (x * y))]) ∧ w' = w := by
  have HH : Hid _ := mul_hi x y hx0 (by omega) hy0 (by omega)
  have HL : Hid _ := mul_lo x y
  go_enter Tryz.func121, Tryz.ntmps121
  go_wp2
  go_ret2
  exact ⟨ret_ii HH.out HL.out, rfl⟩

theorem eq39 (a b c d : Int) (w : World) : (Op.equalIn 10000 116 (.agg #[.int .u64 a, .int .u64 b]) (.agg #[.int .u64 c, .int .u64 d])).run Tryz.prog w = .ok (a == c && b == d) w := by
  have hu : Tryz.prog.underlying 114 = some (.int .u64) := by kernel_rfl
  have hp : Tryz.prog.plainKey 114 = true := by kernel_rfl
  have hc : Tryz.prog.cellsOf 114 = 1 := by kernel_rfl
  obtain ⟨i, hi⟩ := Option.isSome_iff_exists.mp (show (Tryz.prog.info? 114).isSome = true by kernel_rfl)
  rw [show (10000 : Nat) = 9999 + 1 from rfl, run_equalIn_array (n := 2) (e := 114) w 9999 _ _ (by kernel_rfl) hi, hc]
  have p0 := fun (x y : Int) => run_part_plain w hp (xs := #[.int .u64 x, .int .u64 y]) (off := 0) (v := .int .u64 x) rfl
  have p1 := fun (x y : Int) => run_part_plain w hp (xs := #[.int .u64 x, .int .u64 y]) (off := 1) (v := .int .u64 y) rfl
  have q := fun (x y : Int) => run_equalIn_int w 9998 114 .u64 .u64 x y hu
  simp only [List.range, List.range.loop, Op.eqItems, Sem.run_bind, Nat.zero_mul, Nat.one_mul, p0, Result.andThen_ok, q]
  cases hac : (a == c)
  · simp
  · simp only [Bool.not_true, Bool.false_eq_true, if_false, Sem.run_bind, p1, Result.andThen_ok, q, Bool.true_and]
    cases hbd : (b == d) <;> simp

theorem lex0 (a b : Int) : lex a b a b = 0 := by unfold lex; simp
theorem lex1 {a b c d : Int} (h : a < c) : lex a b c d = -1 := by unfold lex; rw [if_neg (by omega), if_pos (by omega)]
theorem lex2 {a b d : Int} (h : b < d) : lex a b a d = -1 := by unfold lex; rw [if_neg (by omega), if_pos (by omega)]
theorem lex3 {a b d : Int} (h : d < b) : lex a b a d = 1 := by unfold lex; rw [if_neg (by omega), if_neg (by omega)]
theorem lex4 {a b c d : Int} (h : c < a) : lex a b c d = 1 := by unfold lex; rw [if_neg (by omega), if_neg (by omega)]

set_option maxHeartbeats 1000000 in
set_option maxRecDepth 100000 in
theorem order_any (a b c d : Int) (w : World) :
    Calls Tryz.prog 116 #[.agg #[.int .u64 a, .int .u64 b], .agg #[.int .u64 c, .int .u64 d]] w fun e w' => e = .returned (.int .i64 (lex a b c d)) ∧ Below w.heap.size w w' := by
  rcases Int.lt_trichotomy a c with hlt | rfl | hgt
  · have h39 : ∀ w, (Op.equalIn 10000 116 (.agg #[.int .u64 a, .int .u64 b]) (.agg #[.int .u64 c, .int .u64 d])).run Tryz.prog w = .ok false w := by
      intro w; rw [eq39, show (a == c) = false from by simp; omega]; rfl
    have HL : Hid (lex a b c d = -1) := lex1 hlt
    go_enter Tryz.func116, Tryz.ntmps116
    go_wp2
    go_ret
    exact ⟨ret_i HL.out.symm, by repeat (first | exact Below.refl _ _ | refine Below.alloc ?_ (by simp <;> omega) _)⟩
  · rcases Int.lt_trichotomy b d with hlt | rfl | hgt
    · have h39 : ∀ w, (Op.equalIn 10000 116 (.agg #[.int .u64 a, .int .u64 b]) (.agg #[.int .u64 a, .int .u64 d])).run Tryz.prog w = .ok false w := by
        intro w; rw [eq39, show (b == d) = false from by simp; omega, Bool.and_false]
      have hle : ¬ a < a := by omega
      have haa : (a == a) = true := by simp
      have HL : Hid (lex a b a d = -1) := lex2 hlt
      go_enter Tryz.func116, Tryz.ntmps116
      go_wp2
      go_ret
      exact ⟨ret_i HL.out.symm, by repeat (first | exact Below.refl _ _ | refine Below.alloc ?_ (by simp <;> omega) _)⟩
    · have h39 : ∀ w, (Op.equalIn 10000 116 (.agg #[.int .u64 a, .int .u64 b]) (.agg #[.int .u64 a, .int .u64 b])).run Tryz.prog w = .ok true w := by
        intro w; rw [eq39]; simp
      have HL : Hid (lex a b a b = 0) := lex0 a b
      go_enter Tryz.func116, Tryz.ntmps116
      go_wp2
      go_ret
      exact ⟨ret_i HL.out.symm, by repeat (first | exact Below.refl _ _ | refine Below.alloc ?_ (by simp <;> omega) _)⟩
    · have h39 : ∀ w, (Op.equalIn 10000 116 (.agg #[.int .u64 a, .int .u64 b]) (.agg #[.int .u64 a, .int .u64 d])).run Tryz.prog w = .ok false w := by
        intro w; rw [eq39, show (b == d) = false from by simp; omega, Bool.and_false]
      have hle : ¬ a < a := by omega
      have haa : (a == a) = true := by simp
      have hbd : ¬ b < d := by omega
      have HL : Hid (lex a b a d = 1) := lex3 hgt
      go_enter Tryz.func116, Tryz.ntmps116
      go_wp2
      go_ret
      exact ⟨ret_i HL.out.symm, by repeat (first | exact Below.refl _ _ | refine Below.alloc ?_ (by simp <;> omega) _)⟩
  · have h39 : ∀ w, (Op.equalIn 10000 116 (.agg #[.int .u64 a, .int .u64 b]) (.agg #[.int .u64 c, .int .u64 d])).run Tryz.prog w = .ok false w := by
      intro w; rw [eq39, show (a == c) = false from by simp; omega]; rfl
    have hle : ¬ a < c := by omega
    have hac : (a == c) = false := by simp; omega
    have HL : Hid (lex a b c d = 1) := lex4 hgt
    go_enter Tryz.func116, Tryz.ntmps116
    go_wp2
    go_ret
    exact ⟨ret_i HL.out.symm, by repeat (first | exact Below.refl _ _ | refine Below.alloc ?_ (by simp <;> omega) _)⟩

set_option maxHeartbeats 1000000 in
set_option maxRecDepth 100000 in
theorem product_any (a b : Int) (w : World) (ha0 : 0 ≤ a) (ha : a ≤ 4611686018427387904) (hb0 : 0 ≤ b) (hb : b ≤ 4611686018427387904) :
    Calls Tryz.prog 115 #[.int .i64 a, .int .i64 b] w fun e w' => e = .returned (.agg #[.int .u64 (hiW (a * b)), .int .u64 (loW (a * b))]) ∧ Below w.heap.size w w' := by
  go_enter Tryz.func115, Tryz.ntmps115
  go_wp2_with (go_at_call 121; refine (mul64_any _ _ _ ha0 ha hb0 hb).mono ?_; rintro e w' ⟨rfl, rfl⟩)
  exact bodyPost_ret (v := .agg #[.int .u64 (hiW (a * b)), .int .u64 (loW (a * b))]) (by simp [results, Tryz.results115, go_sem]) rfl ⟨rfl, by repeat (first | exact Below.refl _ _ | refine Below.alloc ?_ (by simp <;> omega) _)⟩
end Go.Proofs.YtmiakknagjncpaaGreatDoor
/- Walks of frac's Cmp, Beats and Root, out of the contracts of products and their order. -/
namespace Go.Proofs.YtmiakknagjncpaaGreatDoor
open Go.RowKit

set_option maxHeartbeats 1000000 in
set_option maxRecDepth 100000 in
theorem cmp_yes (a b c d : Int) (w : World) (ha0 : 0 ≤ a) (ha : a ≤ 4611686018427387904) (hb0 : 1 ≤ b) (hb : b ≤ 4611686018427387904) (hc0 : 0 ≤ c) (hc : c ≤ 4611686018427387904) (hd0 : 1 ≤ d) (hd : d ≤ 4611686018427387904) :
    Calls Tryz.prog 109 #[.int .i64 a, .int .i64 b, .int .i64 c, .int .i64 d] w fun e w' => e = .returned (.tuple #[.int .i64 (sgn (a * d) (c * b)), .bool true]) ∧ Below w.heap.size w w' := by
  have hd1 : 0 ≤ d := by omega
  have hb1 : 0 ≤ b := by omega
  have HS : Hid _ := lex_words (a * d) (c * b)
  go_enter Tryz.func109, Tryz.ntmps109
  go_wp2_with (first | (go_at_call 107; go_in) | (go_at_call 114; go_in) | fail)
  refine (product_any a d _ ha0 ha hd1 hd).mono ?_
  rintro e w1 ⟨rfl, hb1'⟩
  go_wp2_with fail
  refine (product_any c b _ hc0 hc hb1 hb).mono ?_
  rintro e w2 ⟨rfl, hb2'⟩
  go_wp2_with fail
  refine (order_any _ _ _ _ _).mono ?_
  rintro e w3 ⟨rfl, hb3'⟩
  go_wp2
  go_ret2
  refine ⟨ret_ib HS.out rfl, ?_⟩
  have b0 : Below w.heap.size w ((w.alloc (Obj.cells #[Value.int IntKind.i64 a, Value.int IntKind.i64 b] 103)).alloc (Obj.cells #[Value.int IntKind.i64 c, Value.int IntKind.i64 d] 103)) := by
    repeat (first | exact Below.refl _ _ | refine Below.alloc ?_ (by simp <;> omega) _)
  have s0 := b0.size
  have s1 := hb1'.size
  have s2 := hb2'.size
  exact b0.trans ((hb1'.mono s0).trans ((hb2'.mono (by omega)).trans (hb3'.mono (by omega))))
end Go.Proofs.YtmiakknagjncpaaGreatDoor
/- Walks of the document's own Floor, Ceil, Cmp and Beats, and of the chapter's examples. -/
namespace Go.Proofs.YtmiakknagjncpaaGreatDoor
open Go.RowKit
theorem cl_mul {a b : Int} (h : a / b * b < a) : cl a b = a / b + 1 := by
  have e := Int.ediv_mul_add_emod a b
  unfold cl
  rw [if_neg (by omega)]
theorem cl_mul0 {a b : Int} (hb : 1 ≤ b) (h : ¬ a / b * b < a) : cl a b = a / b := by
  have e := Int.ediv_mul_add_emod a b
  have e1 := Int.emod_nonneg a (show b ≠ 0 by omega)
  unfold cl
  rw [if_pos (by omega)]
end Go.Proofs.YtmiakknagjncpaaGreatDoor
/- Walks of package pat, for all arguments: May, On, Count and Most. -/
namespace Go.Proofs.YtmiakknagjncpaaGreatDoor
open Go.RowKit

def mayB (m k : Int) : Bool := decide (1 ≤ m ∧ m ≤ k ∧ k ≤ 6)
def jobB (j : Int) : Bool := decide (0 ≤ j ∧ j ≤ 1099511627776)
/-- How many of the first n jobs are mandatory. -/
def du (m k n : Int) : Int := cl (n * m) k
def mostV (m k n : Int) : Int := bif mayB m k && jobB n then du m k n else 0

theorem mul_bd {m n c : Int} (m0 : 1 ≤ m) (m6 : m ≤ 6) (n0 : 0 ≤ n) (n1 : n ≤ c) : 0 ≤ n * m ∧ n * m ≤ c * 6 :=
  ⟨Int.mul_nonneg n0 (by omega), by
    have h1 : n * m ≤ n * 6 := Int.mul_le_mul_of_nonneg_left m6 n0
    have h2 : n * 6 ≤ c * 6 := Int.mul_le_mul_of_nonneg_right n1 (by omega)
    omega⟩

set_option maxHeartbeats 1000000 in
set_option maxRecDepth 100000 in
theorem may_any (m k : Int) (w : World) :
    Calls Tryz.prog 106 #[.int .i64 m, .int .i64 k] w fun e w' => e = .returned (.bool (mayB m k)) ∧ w' = w := by
  by_cases c0 : 1 ≤ m
  · by_cases c1 : m ≤ k
    · have H : Hid (mayB m k = decide (k ≤ 6)) := by show _ = _; unfold mayB; simp [c0, c1]
      go_enter Tryz.func106, Tryz.ntmps106
      go_wp2
      go_ret
      exact ⟨ret_b H.out.symm, rfl⟩
    · have H : Hid (mayB m k = false) := by show _ = _; unfold mayB; simp [c1]
      go_enter Tryz.func106, Tryz.ntmps106
      go_wp2
      go_ret
      exact ⟨ret_b H.out.symm, rfl⟩
  · have H : Hid (mayB m k = false) := by show _ = _; unfold mayB; simp [c0]
    go_enter Tryz.func106, Tryz.ntmps106
    go_wp2
    go_ret
    exact ⟨ret_b H.out.symm, rfl⟩

set_option maxHeartbeats 1000000 in
set_option maxRecDepth 100000 in
theorem isJob_any (j : Int) (w : World) :
    Calls Tryz.prog 118 #[.int .i64 j] w fun e w' => e = .returned (.bool (jobB j)) ∧ w' = w := by
  by_cases c0 : 0 ≤ j
  · have H : Hid (jobB j = decide (j ≤ 1099511627776)) := by show _ = _; unfold jobB; simp [c0]
    go_enter Tryz.func118, Tryz.ntmps118
    go_wp2
    go_ret
    exact ⟨ret_b H.out.symm, rfl⟩
  · have H : Hid (jobB j = false) := by show _ = _; unfold jobB; simp [c0]
    go_enter Tryz.func118, Tryz.ntmps118
    go_wp2
    go_ret
    exact ⟨ret_b H.out.symm, rfl⟩

set_option maxHeartbeats 1000000 in
set_option maxRecDepth 100000 in
theorem due_in (m k n : Int) (w : World) (m0 : 1 ≤ m) (mk : m ≤ k) (k6 : k ≤ 6) (n0 : 0 ≤ n) (n1 : n ≤ 2199023255554) :
    Calls Tryz.prog 119 #[.int .i64 m, .int .i64 k, .int .i64 n] w fun e w' => e = .returned (.int .i64 (du m k n)) ∧ Below w.heap.size w w' := by
  obtain ⟨p0, p1⟩ := mul_bd m0 (show m ≤ 6 by omega) n0 n1
  go_enter Tryz.func119, Tryz.ntmps119
  go_wp2_with fail
  refine (ceil_yes (n * m) k _ p0 (by omega) (by omega) (by omega)).mono ?_
  rintro e w1 ⟨rfl, hb1⟩
  go_wp2
  go_ret
  exact ⟨rfl, hb1⟩

theorem mayB_of {m k : Int} (h : mayB m k = true) : 1 ≤ m ∧ m ≤ k ∧ k ≤ 6 := of_decide_eq_true h
theorem jobB_of {j : Int} (h : jobB j = true) : 0 ≤ j ∧ j ≤ 1099511627776 := of_decide_eq_true h
end Go.Proofs.YtmiakknagjncpaaGreatDoor
/- Walks of package pat, for all arguments: Count and Most; and the chapter's example. -/
namespace Go.Proofs.YtmiakknagjncpaaGreatDoor
open Go.RowKit
set_option maxHeartbeats 1000000 in
set_option maxRecDepth 100000 in
theorem most_any (m k n : Int) (w : World) :
    Calls Tryz.prog 112 #[.int .i64 m, .int .i64 k, .int .i64 n] w fun e w' => e = .returned (.int .i64 (mostV m k n)) ∧ Below w.heap.size w w' := by
  cases h1 : mayB m k
  · have H : Hid (mostV m k n = 0) := by show _ = _; unfold mostV; rw [h1]; rfl
    have H1 : Hid (mayB m k = false) := h1
    clear h1
    go_enter Tryz.func112, Tryz.ntmps112
    go_wp2_with fail
    refine (may_any m k _).mono ?_
    rintro e w1 ⟨rfl, rfl⟩
    rw [H1.out]
    go_wp2
    go_ret
    exact ⟨ret_i H.out.symm, Below.refl _ _⟩
  · have H1 : Hid (mayB m k = true) := h1
    cases h2 : jobB n
    · have H : Hid (mostV m k n = 0) := by show _ = _; unfold mostV; rw [h1, h2]; rfl
      have H2 : Hid (jobB n = false) := h2
      clear h1 h2
      go_enter Tryz.func112, Tryz.ntmps112
      go_wp2_with fail
      refine (may_any m k _).mono ?_
      rintro e w1 ⟨rfl, rfl⟩
      rw [H1.out]
      go_wp2_with fail
      refine (isJob_any n _).mono ?_
      rintro e w1 ⟨rfl, rfl⟩
      rw [H2.out]
      go_wp2
      go_ret
      exact ⟨ret_i H.out.symm, Below.refl _ _⟩
    · have H : Hid (mostV m k n = du m k n) := by show _ = _; unfold mostV; rw [h1, h2]; rfl
      have H2 : Hid (jobB n = true) := h2
      obtain ⟨m0, mk, k6⟩ := mayB_of h1
      obtain ⟨n0, n1⟩ := jobB_of h2
      clear h1 h2
      go_enter Tryz.func112, Tryz.ntmps112
      go_wp2_with fail
      refine (may_any m k _).mono ?_
      rintro e w1 ⟨rfl, rfl⟩
      rw [H1.out]
      go_wp2_with fail
      refine (isJob_any n _).mono ?_
      rintro e w1 ⟨rfl, rfl⟩
      rw [H2.out]
      go_wp2_with fail
      refine (due_in m k n _ m0 mk k6 (by omega) (by omega)).mono ?_
      rintro e w1 ⟨rfl, hb1⟩
      go_wp2
      go_ret
      exact ⟨ret_i H.out.symm, hb1⟩
end Go.Proofs.YtmiakknagjncpaaGreatDoor
/- What pat's numbers are to one another: plain arithmetic. -/
namespace Go.Proofs.YtmiakknagjncpaaGreatDoor
open Go.RowKit

theorem six {k : Int} (h : 1 ≤ k) (h' : k ≤ 6) : k = 1 ∨ k = 2 ∨ k = 3 ∨ k = 4 ∨ k = 5 ∨ k = 6 := by omega

theorem cl_mono {x y k : Int} (h : 1 ≤ k) (h' : k ≤ 6) (l : x ≤ y) : cl x k ≤ cl y k := by
  rcases six h h' with rfl | rfl | rfl | rfl | rfl | rfl <;> unfold cl <;> split <;> split <;> omega

theorem du_zero (m k : Int) : du m k 0 = 0 := by unfold du cl; simp

theorem du_mono {m k a b : Int} (m0 : 1 ≤ m) (mk : m ≤ k) (k6 : k ≤ 6) (h : a ≤ b) : du m k a ≤ du m k b := by
  unfold du
  exact cl_mono (by omega) k6 (Int.mul_le_mul_of_nonneg_right h (by omega))

theorem du_nonneg {m k n : Int} (m0 : 1 ≤ m) (mk : m ≤ k) (k6 : k ≤ 6) (h : 0 ≤ n) : 0 ≤ du m k n := by
  have := du_mono m0 mk k6 h; rw [du_zero] at this; exact this

theorem mayB_mk {m k : Int} (m0 : 1 ≤ m) (mk : m ≤ k) (k6 : k ≤ 6) : mayB m k = true := decide_eq_true ⟨m0, mk, k6⟩
theorem jobB_mk {j : Int} (h : 0 ≤ j) (h' : j ≤ 1099511627776) : jobB j = true := decide_eq_true ⟨h, h'⟩
theorem mostV_in {m k n : Int} (m0 : 1 ≤ m) (mk : m ≤ k) (k6 : k ≤ 6) (g : 0 ≤ n) (g' : n ≤ 1099511627776) : mostV m k n = du m k n := by
  unfold mostV; rw [mayB_mk m0 mk k6, jobB_mk g g']; rfl
end Go.Proofs.YtmiakknagjncpaaGreatDoor
/- Walks of the document's own answers of chapter 2, but for the lists. -/
namespace Go.Proofs.YtmiakknagjncpaaGreatDoor
open Go.RowKit
set_option maxHeartbeats 1000000 in
set_option maxRecDepth 100000 in
theorem refMay_any (m k : Int) (w : World) :
    Calls Tryz.prog 38 #[.int .i64 m, .int .i64 k] w fun e w' => e = .returned (.bool (mayB m k)) ∧ w' = w := by
  by_cases c0 : 1 ≤ m
  · by_cases c1 : m ≤ k
    · have H : Hid (mayB m k = decide (k ≤ 6)) := by show _ = _; unfold mayB; simp [c0, c1]
      go_enter Tryz.func38, Tryz.ntmps38
      go_wp2
      go_ret
      exact ⟨ret_b H.out.symm, rfl⟩
    · have H : Hid (mayB m k = false) := by show _ = _; unfold mayB; simp [c1]
      go_enter Tryz.func38, Tryz.ntmps38
      go_wp2
      go_ret
      exact ⟨ret_b H.out.symm, rfl⟩
  · have H : Hid (mayB m k = false) := by show _ = _; unfold mayB; simp [c0]
    go_enter Tryz.func38, Tryz.ntmps38
    go_wp2
    go_ret
    exact ⟨ret_b H.out.symm, rfl⟩

set_option maxHeartbeats 1000000 in
set_option maxRecDepth 100000 in
theorem refIn_any (j : Int) (w : World) :
    Calls Tryz.prog 120 #[.int .i64 j] w fun e w' => e = .returned (.bool (jobB j)) ∧ w' = w := by
  by_cases c0 : 0 ≤ j
  · have H : Hid (jobB j = decide (j ≤ 1099511627776)) := by show _ = _; unfold jobB; simp [c0]
    go_enter Tryz.func120, Tryz.ntmps120
    go_wp2
    go_ret
    exact ⟨ret_b H.out.symm, rfl⟩
  · have H : Hid (jobB j = false) := by show _ = _; unfold jobB; simp [c0]
    go_enter Tryz.func120, Tryz.ntmps120
    go_wp2
    go_ret
    exact ⟨ret_b H.out.symm, rfl⟩

theorem du_quo {m k n : Int} (m0 : 1 ≤ m) (mk : m ≤ k) (k6 : k ≤ 6) : du m k n = (if n * m / k * k < n * m then n * m / k + 1 else n * m / k) := by
  unfold du
  generalize n * m = x
  rcases six (show 1 ≤ k by omega) k6 with rfl | rfl | rfl | rfl | rfl | rfl <;> unfold cl <;> split <;> split <;> omega

set_option maxHeartbeats 1000000 in
set_option maxRecDepth 100000 in
theorem refMost_any (m k n : Int) (w : World) :
    Calls Tryz.prog 113 #[.int .i64 m, .int .i64 k, .int .i64 n] w fun e w' => e = .returned (.int .i64 (mostV m k n)) ∧ w' = w := by
  cases h1 : mayB m k
  · have H : Hid (mostV m k n = 0) := by show _ = _; unfold mostV; rw [h1]; rfl
    have H1 : Hid (mayB m k = false) := h1
    clear h1
    go_enter Tryz.func113, Tryz.ntmps113
    go_wp2_with fail
    refine (refMay_any m k _).mono ?_
    rintro e w1 ⟨rfl, rfl⟩
    rw [H1.out]
    go_wp2_with fail
    refine (refIn_any n _).mono ?_
    rintro e w1 ⟨rfl, rfl⟩
    go_wp2
    go_ret
    exact ⟨ret_i H.out.symm, rfl⟩
  · have H1 : Hid (mayB m k = true) := h1
    cases h2 : jobB n
    · have H : Hid (mostV m k n = 0) := by show _ = _; unfold mostV; rw [h1, h2]; rfl
      have H2 : Hid (jobB n = false) := h2
      clear h1 h2
      go_enter Tryz.func113, Tryz.ntmps113
      go_wp2_with fail
      refine (refMay_any m k _).mono ?_
      rintro e w1 ⟨rfl, rfl⟩
      rw [H1.out]
      go_wp2_with fail
      refine (refIn_any n _).mono ?_
      rintro e w1 ⟨rfl, rfl⟩
      rw [H2.out]
      go_wp2
      go_ret
      exact ⟨ret_i H.out.symm, rfl⟩
    · have H : Hid (mostV m k n = du m k n) := by show _ = _; unfold mostV; rw [h1, h2]; rfl
      have H2 : Hid (jobB n = true) := h2
      obtain ⟨m0, mk, k6⟩ := mayB_of h1
      obtain ⟨n0, n1⟩ := jobB_of h2
      clear h1 h2
      have HQ : Hid _ := du_quo (n := n) m0 mk k6
      obtain ⟨p0, p1⟩ := mul_bd m0 (show m ≤ 6 by omega) n0 n1
      have q0 : 0 ≤ n * m / k := Int.ediv_nonneg p0 (by omega)
      have q1 : n * m / k ≤ n * m := Int.ediv_le_self _ p0
      have q2 : 0 ≤ n * m / k * k := Int.mul_nonneg q0 (by omega)
      have q3 : n * m / k * k ≤ n * m := Int.ediv_mul_le _ (by omega)
      by_cases hl : n * m / k * k < n * m
      · have HR : Hid (du m k n = n * m / k + 1) := by show _ = _; have := HQ.out; rw [if_pos hl] at this; exact this
        go_enter Tryz.func113, Tryz.ntmps113
        go_wp2_with fail
        refine (refMay_any m k _).mono ?_
        rintro e w1 ⟨rfl, rfl⟩
        rw [H1.out]
        go_wp2_with fail
        refine (refIn_any n _).mono ?_
        rintro e w1 ⟨rfl, rfl⟩
        rw [H2.out]
        go_wp2
        go_ret
        exact ⟨ret_i (H.out.trans HR.out).symm, rfl⟩
      · have HR : Hid (du m k n = n * m / k) := by show _ = _; have := HQ.out; rw [if_neg hl] at this; exact this
        go_enter Tryz.func113, Tryz.ntmps113
        go_wp2_with fail
        refine (refMay_any m k _).mono ?_
        rintro e w1 ⟨rfl, rfl⟩
        rw [H1.out]
        go_wp2_with fail
        refine (refIn_any n _).mono ?_
        rintro e w1 ⟨rfl, rfl⟩
        rw [H2.out]
        go_wp2
        go_ret
        exact ⟨ret_i (H.out.trans HR.out).symm, rfl⟩
end Go.Proofs.YtmiakknagjncpaaGreatDoor
/- What a ring is: a list of outcomes, the last one first; and what is counted of it. Plain arithmetic. -/
namespace Go.Proofs.YtmiakknagjncpaaGreatDoor
open Go.RowKit
/-- How many of n numbers from a on have f. -/
def cnt (f : Nat → Bool) (a : Nat) : Nat → Nat
  | 0 => 0
  | n + 1 => cnt f a n + (f (a + n)).toNat
end Go.Proofs.YtmiakknagjncpaaGreatDoor
/- Lists of outcomes as they are read; walks of Of and of Bools. -/
namespace Go.Proofs.YtmiakknagjncpaaGreatDoor
open Go.RowKit
/-- Two cells that may be written. -/
def Two (w : World) (b : Nat) (u v : Value) : Prop := w.cell? ⟨b, 0, none⟩ = some u ∧ w.cell? ⟨b, 1, none⟩ = some v ∧ w.frozen? ⟨b, 0, none⟩ = false ∧ w.frozen? ⟨b, 1, none⟩ = false
theorem Two.later {w w' : World} {b : Nat} {u v : Value} (h : Two w b u v) (hb : Below w.heap.size w w') : Two w' b u v := by
  obtain ⟨h0, h1, h2, h3⟩ := h
  have hl := World.block_lt_of_cell? _ _ h0
  exact ⟨cell_later hb h0, cell_later hb h1, (hb.frozen (p := ⟨b, 0, none⟩) hl).trans h2, (hb.frozen (p := ⟨b, 1, none⟩) hl).trans h3⟩
theorem Two.put {w : World} {b : Nat} {u v : Value} (h : Two w b u v) (u' v' : Value) : Two ((w.setCell ⟨b, 0, none⟩ u').setCell ⟨b, 1, none⟩ v') b u' v' := by
  obtain ⟨h0, h1, h2, h3⟩ := h
  refine ⟨?_, ?_, by simpa using h2, by simpa using h3⟩
  · rw [World.cell?_setCell_other _ _ _ _ (by simp)]; exact World.cell?_setCell_same _ _ _ h0
  · exact World.cell?_setCell_same (u := v) _ _ _ (by rw [World.cell?_setCell_other _ _ _ _ (by simp)]; exact h1)
end Go.Proofs.YtmiakknagjncpaaGreatDoor
/- What the arguments of a statement are, as the walks are told of them. -/
namespace Go.Proofs.YtmiakknagjncpaaGreatDoor
open Go.ChangeShapes Go.WideShapes Go.RowKit Go.Deep Go.Joins

theorem see_int {H : Type} {enc : TypeId × Value → H} {P : Program} {w : World} {base b0 : Nat} {spare : Nat → Bool} {held : Bool} {r : Reach} {t : TypeId} {k : IntKind} {v : Value} {d : DataW H} {p : List MemPlace}
    (ht : P.underlying t = some (.int k)) (hv : Value.okWide P w r b0 t v) (h : DataW.Trod enc P w base spare held t v d p) : ∃ a, v = .int k a ∧ (Lit.int k a).wf = true := by
  obtain ⟨a, h1, _, _, h2⟩ := open_int ht hv h
  exact ⟨a, h1, h2⟩
end Go.Proofs.YtmiakknagjncpaaGreatDoor
/- The walk of the statement RingEven: it returns true, and writes nothing that was there. -/
namespace Go.Proofs.YtmiakknagjncpaaGreatDoor
open Go.RowKit

theorem own_later {w w' : World} {base n : Nat} {e : TypeId} {size : Nat} {v : Value} {xs : List Value} (h : w.ownsRow base e size v n xs) (hb : Below w.heap.size w w') : w'.ownsRow base e size v n xs := by
  have hl := h.lt
  obtain ⟨h0, h1 | ⟨g, cap, cur, rfl, h2, h3, h4⟩⟩ := h
  · exact ⟨h0, .inl h1⟩
  · exact ⟨h0, .inr ⟨g, cap, cur, rfl, h2, by rw [hb.block g (hl g rfl).2]; exact h3, h4⟩⟩
end Go.Proofs.YtmiakknagjncpaaGreatDoor
/- Items as they lie; walks of the methods that a heap has. -/
namespace Go.Proofs.YtmiakknagjncpaaGreatDoor
open Go.RowKit

theorem cell_later {w w' : World} {p : Addr} {v : Value} (hb : Below w.heap.size w w') (hc : w.cell? p = some v) : w'.cell? p = some v :=
  (hb.cell (World.block_lt_of_cell? _ _ hc)).trans hc
end Go.Proofs.YtmiakknagjncpaaGreatDoor
/- What the arguments of a statement are, as the walks are told of them: items. -/
namespace Go.Proofs.YtmiakknagjncpaaGreatDoor
open Go.ChangeShapes Go.WideShapes Go.RowKit Go.Deep Go.Joins
/-- A list of integers that is read. -/
def Nums (w : World) (v : Value) (ks : List Int) : Prop :=
  ∃ a cap, v = .slice a ks.length cap ∧ ks.length ≤ cap ∧ cap ≤ maxLen ∧ (ks ≠ [] → ∃ b o, a = some ⟨b, o, none⟩ ∧ ∀ i, i < ks.length → w.cell? ⟨b, o + i, none⟩ = some (.int .i64 (ks.getD i 0)))
theorem see_nums {H : Type} {enc : TypeId × Value → H} {P : Program} {w : World} {base b0 : Nat} {held : Bool} {r : Reach} {t e : TypeId} {v : Value} {d : DataW H} {p : List MemPlace}
    (ht : P.underlying t = some (.slice e)) (he : P.underlying e = some (.int .i64)) (hc : P.cellsOf e = 1) (hv : Value.okWide P w r b0 t v) (h : DataW.Trod enc P w base (fun _ => true) held t v d p) : ∃ ks, Nums w v ks := by
  obtain ⟨a, len, cap, rfl⟩ := okWide_slice ht hv
  obtain ⟨fuel, hf⟩ := h
  rcases open_ints ht he hc hf with ⟨hcs, _⟩ | ⟨x, l, c, zs, hcs, _, hl, hm, hz, _, hcell, _⟩
  · simp [Value.cells] at hcs
    obtain ⟨rfl, rfl, rfl⟩ := hcs
    exact ⟨[], none, 0, rfl, by simp, by simp, fun h => absurd rfl h⟩
  · simp [Value.cells] at hcs
    obtain ⟨rfl, rfl, rfl⟩ := hcs
    simp only [if_true] at hz
    have hlen : (zs.take len).length = len := by simp; omega
    refine ⟨zs.take len, some x, cap, by rw [hlen], by omega, hm, fun hne => ?_⟩
    have hp : 0 < len := by
      rcases Nat.eq_zero_or_pos len with h | h
      · subst h; simp at hne
      · exact h
    obtain ⟨b, off, spot⟩ := x
    have hspot : spot = none := by simpa [Addr.add] using World.cell?_spot (hcell 0 (by omega))
    subst hspot
    refine ⟨b, off, rfl, fun i hi => ?_⟩
    rw [hlen] at hi
    have := hcell i (by omega)
    rw [Go.WideShapes.add_plain] at this
    rw [this]
    simp [List.getD, hi]
end Go.Proofs.YtmiakknagjncpaaGreatDoor
/- The statement on the least item. -/
namespace Go.Proofs.YtmiakknagjncpaaGreatDoor
open Go.RowKit
set_option linter.unusedVariables false

theorem drawn {B : Nat} {w w' : World} (h : Below B w w') (n : Nat) : Below B w (w'.drewN n) := ⟨h.os, h.tape, h.output, h.size, h.block⟩
end Go.Proofs.YtmiakknagjncpaaGreatDoor
/- The statement on what is ordered. -/
namespace Go.Proofs.YtmiakknagjncpaaGreatDoor
open Go.RowKit
set_option linter.unusedVariables false

/-- How many of the first j items are x. -/
def cx (xs : List (Int × Int)) (x : Int × Int) (j : Nat) : Nat := (xs.take j).count x
end Go.Proofs.YtmiakknagjncpaaGreatDoor
/- Walks of package spec: the numbers of a description, and what each must be. -/
namespace Go.Proofs.YtmiakknagjncpaaGreatDoor
open Go.RowKit

/-- A description. -/
structure Sp where
  c : Int
  t : Int
  x : Int
  m : Int
  k : Int
  e : Int
def wiB (n a b : Int) : Bool := decide (a ≤ n ∧ n ≤ b)
def leT (s : Sp) : Int := if s.e = 0 then s.x else s.c
def fitC (s : Sp) : Bool := wiB s.c 1 6
def fitT (s : Sp) : Bool := wiB s.t (leT s) s.x
def fitX (s : Sp) : Bool := wiB s.x s.c 48
def fitW (s : Sp) : Bool := mayB s.m s.k
def fitE (s : Sp) : Bool := wiB s.e 0 8

set_option maxHeartbeats 1000000 in
set_option maxRecDepth 100000 in
theorem within_any (n a b : Int) (w : World) :
    Calls Tryz.prog 80 #[.int .i64 n, .int .i64 a, .int .i64 b] w fun e w' => e = .returned (.bool (wiB n a b)) ∧ w' = w := by
  by_cases c0 : a ≤ n
  · have H : Hid (wiB n a b = decide (n ≤ b)) := by show _ = _; unfold wiB; simp [c0]
    go_enter Tryz.func80, Tryz.ntmps80
    go_wp2
    go_ret
    exact ⟨ret_b H.out.symm, rfl⟩
  · have H : Hid (wiB n a b = false) := by show _ = _; unfold wiB; simp [c0]
    go_enter Tryz.func80, Tryz.ntmps80
    go_wp2
    go_ret
    exact ⟨ret_b H.out.symm, rfl⟩

set_option maxHeartbeats 1000000 in
set_option maxRecDepth 100000 in
theorem fitC_any (c t x m k e : Int) (w : World) :
    Calls Tryz.prog 79 #[.agg #[.int .i64 c, .int .i64 t, .int .i64 x, .int .i64 m, .int .i64 k, .int .i64 e]] w fun r w' => r = .returned (.bool (fitC ⟨c, t, x, m, k, e⟩)) ∧ Below w.heap.size w w' := by
  go_enter Tryz.func79, Tryz.ntmps79
  go_wp2_with fail
  refine (within_any _ _ _ _).mono ?_
  rintro r w1 ⟨rfl, rfl⟩
  go_wp2
  go_ret
  exact ⟨rfl, (Below.refl _ _).alloc (by simp) _⟩

set_option maxHeartbeats 1000000 in
set_option maxRecDepth 100000 in
theorem fitX_any (c t x m k e : Int) (w : World) :
    Calls Tryz.prog 87 #[.agg #[.int .i64 c, .int .i64 t, .int .i64 x, .int .i64 m, .int .i64 k, .int .i64 e]] w fun r w' => r = .returned (.bool (fitX ⟨c, t, x, m, k, e⟩)) ∧ Below w.heap.size w w' := by
  go_enter Tryz.func87, Tryz.ntmps87
  go_wp2_with fail
  refine (within_any _ _ _ _).mono ?_
  rintro r w1 ⟨rfl, rfl⟩
  go_wp2
  go_ret
  exact ⟨rfl, (Below.refl _ _).alloc (by simp) _⟩

set_option maxHeartbeats 1000000 in
set_option maxRecDepth 100000 in
theorem fitE_any (c t x m k e : Int) (w : World) :
    Calls Tryz.prog 95 #[.agg #[.int .i64 c, .int .i64 t, .int .i64 x, .int .i64 m, .int .i64 k, .int .i64 e]] w fun r w' => r = .returned (.bool (fitE ⟨c, t, x, m, k, e⟩)) ∧ Below w.heap.size w w' := by
  go_enter Tryz.func95, Tryz.ntmps95
  go_wp2_with fail
  refine (within_any _ _ _ _).mono ?_
  rintro r w1 ⟨rfl, rfl⟩
  go_wp2
  go_ret
  exact ⟨rfl, (Below.refl _ _).alloc (by simp) _⟩

set_option maxHeartbeats 1000000 in
set_option maxRecDepth 100000 in
theorem fitW_any (c t x m k e : Int) (w : World) :
    Calls Tryz.prog 90 #[.agg #[.int .i64 c, .int .i64 t, .int .i64 x, .int .i64 m, .int .i64 k, .int .i64 e]] w fun r w' => r = .returned (.bool (fitW ⟨c, t, x, m, k, e⟩)) ∧ Below w.heap.size w w' := by
  go_enter Tryz.func90, Tryz.ntmps90
  go_wp2_with fail
  refine (may_any _ _ _).mono ?_
  rintro r w1 ⟨rfl, rfl⟩
  go_wp2
  go_ret
  exact ⟨rfl, (Below.refl _ _).alloc (by simp) _⟩

set_option maxHeartbeats 1000000 in
set_option maxRecDepth 100000 in
theorem leastT_any (c t x m k e : Int) (w : World) :
    Calls Tryz.prog 84 #[.agg #[.int .i64 c, .int .i64 t, .int .i64 x, .int .i64 m, .int .i64 k, .int .i64 e]] w fun r w' => r = .returned (.int .i64 (leT ⟨c, t, x, m, k, e⟩)) ∧ Below w.heap.size w w' := by
  by_cases h : e = 0
  · subst h
    have H : Hid (leT ⟨c, t, x, m, k, 0⟩ = x) := by show _ = _; unfold leT; simp
    go_enter Tryz.func84, Tryz.ntmps84
    go_wp2
    go_ret
    exact ⟨ret_i H.out.symm, (Below.refl _ _).alloc (by simp) _⟩
  · have H : Hid (leT ⟨c, t, x, m, k, e⟩ = c) := by show _ = _; unfold leT; simp [h]
    have h' : (e == 0) = false := by simpa using h
    go_enter Tryz.func84, Tryz.ntmps84
    go_wp2
    go_ret
    exact ⟨ret_i H.out.symm, (Below.refl _ _).alloc (by simp) _⟩

set_option maxHeartbeats 1000000 in
set_option maxRecDepth 100000 in
theorem fitT_any (c t x m k e : Int) (w : World) :
    Calls Tryz.prog 83 #[.agg #[.int .i64 c, .int .i64 t, .int .i64 x, .int .i64 m, .int .i64 k, .int .i64 e]] w fun r w' => r = .returned (.bool (fitT ⟨c, t, x, m, k, e⟩)) ∧ Below w.heap.size w w' := by
  have H : Hid (fitT ⟨c, t, x, m, k, e⟩ = wiB t (leT ⟨c, t, x, m, k, e⟩) x) := rfl
  go_enter Tryz.func83, Tryz.ntmps83
  go_wp2_with fail
  have k0 : (w.alloc (.cells #[.int .i64 c, .int .i64 t, .int .i64 x, .int .i64 m, .int .i64 k, .int .i64 e] 38)).cell? ⟨w.heap.size, 0, none⟩ = some (.int .i64 c) := by simp
  have k1 : (w.alloc (.cells #[.int .i64 c, .int .i64 t, .int .i64 x, .int .i64 m, .int .i64 k, .int .i64 e] 38)).cell? ⟨w.heap.size, 1, none⟩ = some (.int .i64 t) := by simp
  have k2 : (w.alloc (.cells #[.int .i64 c, .int .i64 t, .int .i64 x, .int .i64 m, .int .i64 k, .int .i64 e] 38)).cell? ⟨w.heap.size, 2, none⟩ = some (.int .i64 x) := by simp
  have k3 : (w.alloc (.cells #[.int .i64 c, .int .i64 t, .int .i64 x, .int .i64 m, .int .i64 k, .int .i64 e] 38)).cell? ⟨w.heap.size, 3, none⟩ = some (.int .i64 m) := by simp
  have k4 : (w.alloc (.cells #[.int .i64 c, .int .i64 t, .int .i64 x, .int .i64 m, .int .i64 k, .int .i64 e] 38)).cell? ⟨w.heap.size, 4, none⟩ = some (.int .i64 k) := by simp
  have k5 : (w.alloc (.cells #[.int .i64 c, .int .i64 t, .int .i64 x, .int .i64 m, .int .i64 k, .int .i64 e] 38)).cell? ⟨w.heap.size, 5, none⟩ = some (.int .i64 e) := by simp
  have HE : Hid (Below w.heap.size w (w.alloc (.cells #[.int .i64 c, .int .i64 t, .int .i64 x, .int .i64 m, .int .i64 k, .int .i64 e] 38))) := (Below.refl _ _).alloc (by simp) _
  generalize w.alloc (.cells #[.int .i64 c, .int .i64 t, .int .i64 x, .int .i64 m, .int .i64 k, .int .i64 e] 38) = W at *
  have s1 := HE.out.size
  go_region_held3 (fun w' => w'.cell? ⟨w.heap.size, 0, none⟩ = some (.int .i64 c) ∧ w'.cell? ⟨w.heap.size, 1, none⟩ = some (.int .i64 t) ∧ w'.cell? ⟨w.heap.size, 2, none⟩ = some (.int .i64 x) ∧ w'.cell? ⟨w.heap.size, 3, none⟩ = some (.int .i64 m) ∧ w'.cell? ⟨w.heap.size, 4, none⟩ = some (.int .i64 k) ∧ w'.cell? ⟨w.heap.size, 5, none⟩ = some (.int .i64 e))
    (first | exact ⟨k0, k1, k2, k3, k4, k5⟩ | exact ⟨cell_later hb2 k0, cell_later hb2 k1, cell_later hb2 k2, cell_later hb2 k3, cell_later hb2 k4, cell_later hb2 k5⟩)
    (first
    | (go_at_call 84; refine (leastT_any c t x m k e W.drew).mono ?_; rintro r w2 ⟨rfl, hb2⟩)
    | (go_at_call 80; refine (within_any _ _ _ _).mono ?_; rintro r w3 ⟨rfl, hw3⟩; obtain rfl := hw3.symm))
  all_goals
    go_wp2_with fail
    go_ret
    exact ⟨ret_b H.out.symm, HE.out.drew.trans (hb2.mono s1)⟩
end Go.Proofs.YtmiakknagjncpaaGreatDoor
/- Walks of package spec: the array of a description's numbers. -/
namespace Go.Proofs.YtmiakknagjncpaaGreatDoor
open Go.RowKit

/-- A description's numbers: what reads each, what sets it, and what tells whether it fits. -/
def partsA : Array Value := #[.func (.func 77) #[] #[], .func (.func 78) #[] #[], .func (.func 79) #[] #[], .func (.func 81) #[] #[], .func (.func 82) #[] #[], .func (.func 83) #[] #[], .func (.func 85) #[] #[], .func (.func 86) #[] #[], .func (.func 87) #[] #[], .func (.func 88) #[] #[], .func (.func 89) #[] #[], .func (.func 90) #[] #[], .func (.func 91) #[] #[], .func (.func 92) #[] #[], .func (.func 90) #[] #[], .func (.func 93) #[] #[], .func (.func 94) #[] #[], .func (.func 95) #[] #[]]

set_option maxHeartbeats 1000000 in
set_option maxRecDepth 100000 in
theorem parts_any (w : World) :
    Calls Tryz.prog 56 #[] w fun e w' => e = .returned (.agg partsA) ∧ Below w.heap.size w w' := by
  go_enter Tryz.func56, Tryz.ntmps56
  go_wp2_with fail
  refine bodyPost_ret (v := .agg partsA) ?_ rfl ⟨rfl, (Below.refl _ _).alloc (by simp) _⟩
  exact results_cell_row rfl _ _ _ 83 partsA (0, 0) _ rfl (heap_alloc_last w _) Tryz.underlying83 rfl (by kernel_rfl)
end Go.Proofs.YtmiakknagjncpaaGreatDoor
/- Walks of package spec: May. -/
namespace Go.Proofs.YtmiakknagjncpaaGreatDoor
open Go.RowKit

/-- Does the number at a place fit? -/
def fitB (s : Sp) (j : Nat) : Bool := match j with
  | 0 => fitC s
  | 1 => fitT s
  | 2 => fitX s
  | 3 => fitW s
  | 4 => fitW s
  | _ => fitE s
/-- Do the first ones fit? -/
def fitN (s : Sp) : Nat → Bool
  | 0 => true
  | j + 1 => fitN s j && fitB s j
def maySp (s : Sp) : Bool := fitN s 6
theorem fit_on {s : Sp} {j : Nat} (h : fitN s j = true) (h' : fitB s j = true) : fitN s (j + 1) = true := by
  show (fitN s j && fitB s j) = true; rw [h, h']; rfl
theorem fitN_no {s : Sp} {i : Nat} (h : fitB s i = false) : ∀ j, i < j → fitN s j = false
  | 0, hj => by omega
  | j + 1, hj => by
    show (fitN s j && fitB s j) = false
    rcases Nat.lt_or_ge i j with h1 | h1
    · rw [fitN_no h j h1]; rfl
    · rw [show j = i by omega, h]; simp
theorem spfit_no {s : Sp} (i : Nat) (hi : i < 6) (h : fitB s i = false) : maySp s = false := fitN_no h 6 hi

theorem idx0 (w : World) : (Instr.index 83 (.agg partsA) (.int .i64 0)).run Tryz.prog w = .ok (.agg #[.func (.func 77) #[] #[], .func (.func 78) #[] #[], .func (.func 79) #[] #[]]) w := by kernel_rfl
theorem idx1 (w : World) : (Instr.index 83 (.agg partsA) (.int .i64 1)).run Tryz.prog w = .ok (.agg #[.func (.func 81) #[] #[], .func (.func 82) #[] #[], .func (.func 83) #[] #[]]) w := by kernel_rfl
theorem idx2 (w : World) : (Instr.index 83 (.agg partsA) (.int .i64 2)).run Tryz.prog w = .ok (.agg #[.func (.func 85) #[] #[], .func (.func 86) #[] #[], .func (.func 87) #[] #[]]) w := by kernel_rfl
theorem idx3 (w : World) : (Instr.index 83 (.agg partsA) (.int .i64 3)).run Tryz.prog w = .ok (.agg #[.func (.func 88) #[] #[], .func (.func 89) #[] #[], .func (.func 90) #[] #[]]) w := by kernel_rfl
theorem idx4 (w : World) : (Instr.index 83 (.agg partsA) (.int .i64 4)).run Tryz.prog w = .ok (.agg #[.func (.func 91) #[] #[], .func (.func 92) #[] #[], .func (.func 90) #[] #[]]) w := by kernel_rfl
theorem idx5 (w : World) : (Instr.index 83 (.agg partsA) (.int .i64 5)).run Tryz.prog w = .ok (.agg #[.func (.func 93) #[] #[], .func (.func 94) #[] #[], .func (.func 95) #[] #[]]) w := by kernel_rfl

set_option maxHeartbeats 1000000 in
set_option maxRecDepth 100000 in
theorem spmay_any (c t x m k e : Int) (w : World) :
    Calls Tryz.prog 36 #[.agg #[.int .i64 c, .int .i64 t, .int .i64 x, .int .i64 m, .int .i64 k, .int .i64 e]] w fun r w' => r = .returned (.bool (maySp ⟨c, t, x, m, k, e⟩)) ∧ Below w.heap.size w w' := by
  go_enter Tryz.func36, Tryz.ntmps36
  go_wp2_with fail
  refine (parts_any _).mono ?_
  rintro r w1 ⟨rfl, hb1⟩
  have hb : Below w.heap.size w w1 := ((Below.refl _ _).alloc (by simp) _).trans (hb1.mono (by simp))
  have c0 : w1.cell? ⟨w.heap.size, 0, none⟩ = some (.int .i64 c) := (hb1.cell (p := ⟨w.heap.size, 0, none⟩) (by simp)).trans (by simp)
  have c1 : w1.cell? ⟨w.heap.size, 1, none⟩ = some (.int .i64 t) := (hb1.cell (p := ⟨w.heap.size, 1, none⟩) (by simp)).trans (by simp)
  have c2 : w1.cell? ⟨w.heap.size, 2, none⟩ = some (.int .i64 x) := (hb1.cell (p := ⟨w.heap.size, 2, none⟩) (by simp)).trans (by simp)
  have c3 : w1.cell? ⟨w.heap.size, 3, none⟩ = some (.int .i64 m) := (hb1.cell (p := ⟨w.heap.size, 3, none⟩) (by simp)).trans (by simp)
  have c4 : w1.cell? ⟨w.heap.size, 4, none⟩ = some (.int .i64 k) := (hb1.cell (p := ⟨w.heap.size, 4, none⟩) (by simp)).trans (by simp)
  have c5 : w1.cell? ⟨w.heap.size, 5, none⟩ = some (.int .i64 e) := (hb1.cell (p := ⟨w.heap.size, 5, none⟩) (by simp)).trans (by simp)
  clear hb1
  go_wp2_with fail
  go_loopw [6] (fun i wr => ∃ (j : Nat), j ≤ 6 ∧ i = .int .i64 j ∧ Below w1.heap.size w1 wr ∧ Hid (fitN ⟨c, t, x, m, k, e⟩ j = true)) (fun i _ => ((6 : Int) - intOf i).toNat)
  case atStart => exact ⟨0, by omega, rfl, Below.refl _ _, rfl⟩
  case round =>
    obtain ⟨j, hj, rfl, hbw, HF⟩ := hrel
    have s1 := hbw.size
    have e0 := cell_later hbw c0
    have e1 := cell_later hbw c1
    have e2 := cell_later hbw c2
    have e3 := cell_later hbw c3
    have e4 := cell_later hbw c4
    have e5 := cell_later hbw c5
    have s2 : w.heap.size < wr.heap.size := World.block_lt_of_cell? _ _ e0
    rcases (show j = 0 ∨ j = 1 ∨ j = 2 ∨ j = 3 ∨ j = 4 ∨ j = 5 ∨ j = 6 by omega) with rfl | rfl | rfl | rfl | rfl | rfl | rfl
    · have hix := idx0
      cases hg : fitC ⟨c, t, x, m, k, e⟩
      · have HG : Hid (fitC ⟨c, t, x, m, k, e⟩ = false) := hg
        clear hg
        go_wp2_with fail
        refine (fitC_any c t x m k e _).mono ?_
        rintro r w3 ⟨rfl, hb3⟩
        rw [HG.out]
        go_wp2_with fail
        go_ret
        exact ⟨ret_b (spfit_no 0 (by omega) HG.out).symm, (hb.trans ((hbw.mono hb.size).alloc (by have := hb.size; omega) _)).trans (hb3.mono (by have := hb.size; simp; omega))⟩
      · have HG : Hid (fitC ⟨c, t, x, m, k, e⟩ = true) := hg
        clear hg
        go_wp2_with fail
        refine (fitC_any c t x m k e _).mono ?_
        rintro r w3 ⟨rfl, hb3⟩
        rw [HG.out]
        go_wp2_with fail
        go_roundw
        case rel => exact ⟨1, by omega, by go_num, (hbw.alloc s1 _).trans (hb3.mono (by simp; omega)), fit_on HF.out HG.out⟩
        case measure => simp [intOf]
    · have hix := idx1
      cases hg : fitT ⟨c, t, x, m, k, e⟩
      · have HG : Hid (fitT ⟨c, t, x, m, k, e⟩ = false) := hg
        clear hg
        go_wp2_with fail
        refine (fitT_any c t x m k e _).mono ?_
        rintro r w3 ⟨rfl, hb3⟩
        rw [HG.out]
        go_wp2_with fail
        go_ret
        exact ⟨ret_b (spfit_no 1 (by omega) HG.out).symm, (hb.trans ((hbw.mono hb.size).alloc (by have := hb.size; omega) _)).trans (hb3.mono (by have := hb.size; simp; omega))⟩
      · have HG : Hid (fitT ⟨c, t, x, m, k, e⟩ = true) := hg
        clear hg
        go_wp2_with fail
        refine (fitT_any c t x m k e _).mono ?_
        rintro r w3 ⟨rfl, hb3⟩
        rw [HG.out]
        go_wp2_with fail
        go_roundw
        case rel => exact ⟨2, by omega, by go_num, (hbw.alloc s1 _).trans (hb3.mono (by simp; omega)), fit_on HF.out HG.out⟩
        case measure => simp [intOf]
    · have hix := idx2
      cases hg : fitX ⟨c, t, x, m, k, e⟩
      · have HG : Hid (fitX ⟨c, t, x, m, k, e⟩ = false) := hg
        clear hg
        go_wp2_with fail
        refine (fitX_any c t x m k e _).mono ?_
        rintro r w3 ⟨rfl, hb3⟩
        rw [HG.out]
        go_wp2_with fail
        go_ret
        exact ⟨ret_b (spfit_no 2 (by omega) HG.out).symm, (hb.trans ((hbw.mono hb.size).alloc (by have := hb.size; omega) _)).trans (hb3.mono (by have := hb.size; simp; omega))⟩
      · have HG : Hid (fitX ⟨c, t, x, m, k, e⟩ = true) := hg
        clear hg
        go_wp2_with fail
        refine (fitX_any c t x m k e _).mono ?_
        rintro r w3 ⟨rfl, hb3⟩
        rw [HG.out]
        go_wp2_with fail
        go_roundw
        case rel => exact ⟨3, by omega, by go_num, (hbw.alloc s1 _).trans (hb3.mono (by simp; omega)), fit_on HF.out HG.out⟩
        case measure => simp [intOf]
    · have hix := idx3
      cases hg : fitW ⟨c, t, x, m, k, e⟩
      · have HG : Hid (fitW ⟨c, t, x, m, k, e⟩ = false) := hg
        clear hg
        go_wp2_with fail
        refine (fitW_any c t x m k e _).mono ?_
        rintro r w3 ⟨rfl, hb3⟩
        rw [HG.out]
        go_wp2_with fail
        go_ret
        exact ⟨ret_b (spfit_no 3 (by omega) HG.out).symm, (hb.trans ((hbw.mono hb.size).alloc (by have := hb.size; omega) _)).trans (hb3.mono (by have := hb.size; simp; omega))⟩
      · have HG : Hid (fitW ⟨c, t, x, m, k, e⟩ = true) := hg
        clear hg
        go_wp2_with fail
        refine (fitW_any c t x m k e _).mono ?_
        rintro r w3 ⟨rfl, hb3⟩
        rw [HG.out]
        go_wp2_with fail
        go_roundw
        case rel => exact ⟨4, by omega, by go_num, (hbw.alloc s1 _).trans (hb3.mono (by simp; omega)), fit_on HF.out HG.out⟩
        case measure => simp [intOf]
    · have hix := idx4
      cases hg : fitW ⟨c, t, x, m, k, e⟩
      · have HG : Hid (fitW ⟨c, t, x, m, k, e⟩ = false) := hg
        clear hg
        go_wp2_with fail
        refine (fitW_any c t x m k e _).mono ?_
        rintro r w3 ⟨rfl, hb3⟩
        rw [HG.out]
        go_wp2_with fail
        go_ret
        exact ⟨ret_b (spfit_no 4 (by omega) HG.out).symm, (hb.trans ((hbw.mono hb.size).alloc (by have := hb.size; omega) _)).trans (hb3.mono (by have := hb.size; simp; omega))⟩
      · have HG : Hid (fitW ⟨c, t, x, m, k, e⟩ = true) := hg
        clear hg
        go_wp2_with fail
        refine (fitW_any c t x m k e _).mono ?_
        rintro r w3 ⟨rfl, hb3⟩
        rw [HG.out]
        go_wp2_with fail
        go_roundw
        case rel => exact ⟨5, by omega, by go_num, (hbw.alloc s1 _).trans (hb3.mono (by simp; omega)), fit_on HF.out HG.out⟩
        case measure => simp [intOf]
    · have hix := idx5
      cases hg : fitE ⟨c, t, x, m, k, e⟩
      · have HG : Hid (fitE ⟨c, t, x, m, k, e⟩ = false) := hg
        clear hg
        go_wp2_with fail
        refine (fitE_any c t x m k e _).mono ?_
        rintro r w3 ⟨rfl, hb3⟩
        rw [HG.out]
        go_wp2_with fail
        go_ret
        exact ⟨ret_b (spfit_no 5 (by omega) HG.out).symm, (hb.trans ((hbw.mono hb.size).alloc (by have := hb.size; omega) _)).trans (hb3.mono (by have := hb.size; simp; omega))⟩
      · have HG : Hid (fitE ⟨c, t, x, m, k, e⟩ = true) := hg
        clear hg
        go_wp2_with fail
        refine (fitE_any c t x m k e _).mono ?_
        rintro r w3 ⟨rfl, hb3⟩
        rw [HG.out]
        go_wp2_with fail
        go_roundw
        case rel => exact ⟨6, by omega, by go_num, (hbw.alloc s1 _).trans (hb3.mono (by simp; omega)), fit_on HF.out HG.out⟩
        case measure => simp [intOf]
    · go_wp2_with fail
      go_ret
      exact ⟨ret_b HF.out.symm, hb.trans (hbw.mono hb.size)⟩
end Go.Proofs.YtmiakknagjncpaaGreatDoor
/- A description's cells; walks of package spec: known, Stretch. -/
namespace Go.Proofs.YtmiakknagjncpaaGreatDoor
open Go.RowKit

def Sp.at (s : Sp) (i : Nat) : Int := match i with
  | 0 => s.c
  | 1 => s.t
  | 2 => s.x
  | 3 => s.m
  | 4 => s.k
  | _ => s.e
theorem maySp_eq (s : Sp) : maySp s = decide (1 ≤ s.c ∧ s.c ≤ 6 ∧ s.c ≤ s.t ∧ s.t ≤ s.x ∧ s.x ≤ 48 ∧ (1 ≤ s.m ∧ s.m ≤ s.k ∧ s.k ≤ 6) ∧ 0 ≤ s.e ∧ s.e ≤ 8 ∧ (s.e ≠ 0 ∨ s.t = s.x)) := by
  have e : maySp s = (((((fitC s && fitT s) && fitX s) && fitW s) && fitW s) && fitE s) := by
    show ((((((true && fitC s) && fitT s) && fitX s) && fitW s) && fitW s) && fitE s) = _
    rw [Bool.true_and]
  rw [e]
  unfold fitC fitT fitX fitW fitE wiB leT mayB
  rw [Bool.eq_iff_iff]
  simp only [Bool.and_eq_true, decide_eq_true_eq]
  by_cases h : s.e = 0
  · simp only [h, if_true]; omega
  · simp only [h, if_false]; omega

/-- Six numbers that lie in a block, and may be written. -/
def Six (w : World) (b : Nat) (f : Nat → Int) : Prop := ∀ i, i < 6 → w.cell? ⟨b, i, none⟩ = some (.int .i64 (f i)) ∧ w.frozen? ⟨b, i, none⟩ = false
theorem Six.new (w : World) (s : Sp) : Six (w.alloc (.cells #[.int .i64 s.c, .int .i64 s.t, .int .i64 s.x, .int .i64 s.m, .int .i64 s.k, .int .i64 s.e] 38)) w.heap.size s.at := by
  intro i hi
  rcases (show i = 0 ∨ i = 1 ∨ i = 2 ∨ i = 3 ∨ i = 4 ∨ i = 5 by omega) with rfl | rfl | rfl | rfl | rfl | rfl <;> exact ⟨by simp [Sp.at], by simp⟩
theorem Six.later {w w' : World} {b : Nat} {f : Nat → Int} (h : Six w b f) (hb : Below w.heap.size w w') : Six w' b f := by
  intro i hi
  obtain ⟨h1, h2⟩ := h i hi
  exact ⟨cell_later hb h1, (hb.frozen (p := ⟨b, i, none⟩) (World.block_lt_of_cell? _ _ h1)).trans h2⟩
theorem Six.lt {w : World} {b : Nat} {f : Nat → Int} (h : Six w b f) : b < w.heap.size := World.block_lt_of_cell? _ _ (h 0 (by omega)).1
theorem Six.set {w : World} {b : Nat} {f g : Nat → Int} (h : Six w b f) (j : Nat) (hj : j < 6) (v : Int) (hv : g j = v) (hg : ∀ i, i < 6 → i ≠ j → g i = f i) : Six (w.setCell ⟨b, j, none⟩ (.int .i64 v)) b g := by
  intro i hi
  obtain ⟨h1, h2⟩ := h i hi
  refine ⟨?_, by simpa using h2⟩
  by_cases e : i = j
  · subst e; rw [hv]; exact World.cell?_setCell_same _ _ _ h1
  · rw [World.cell?_setCell_other _ _ _ _ (by intro he; exact e (Addr.mk.injEq .. ▸ he).2.1.symm), hg i hi e]; exact h1

theorem Six.sp {w : World} {b : Nat} {c t x m k e : Int} (h : Six w b (Sp.at ⟨c, t, x, m, k, e⟩)) :
    w.cell? ⟨b, 0, none⟩ = some (.int .i64 c) ∧ w.cell? ⟨b, 1, none⟩ = some (.int .i64 t) ∧ w.cell? ⟨b, 2, none⟩ = some (.int .i64 x) ∧ w.cell? ⟨b, 3, none⟩ = some (.int .i64 m) ∧ w.cell? ⟨b, 4, none⟩ = some (.int .i64 k) ∧ w.cell? ⟨b, 5, none⟩ = some (.int .i64 e) ∧
    w.frozen? ⟨b, 0, none⟩ = false ∧ w.frozen? ⟨b, 1, none⟩ = false ∧ w.frozen? ⟨b, 2, none⟩ = false ∧ w.frozen? ⟨b, 3, none⟩ = false ∧ w.frozen? ⟨b, 4, none⟩ = false ∧ w.frozen? ⟨b, 5, none⟩ = false :=
  ⟨(h 0 (by omega)).1, (h 1 (by omega)).1, (h 2 (by omega)).1, (h 3 (by omega)).1, (h 4 (by omega)).1, (h 5 (by omega)).1, (h 0 (by omega)).2, (h 1 (by omega)).2, (h 2 (by omega)).2, (h 3 (by omega)).2, (h 4 (by omega)).2, (h 5 (by omega)).2⟩
end Go.Proofs.YtmiakknagjncpaaGreatDoor
/- Walks of package spec: what sets a description's numbers. -/
namespace Go.Proofs.YtmiakknagjncpaaGreatDoor
open Go.RowKit
/-- Of a description the first numbers, else zeros. -/
def gN (s : Sp) (j i : Nat) : Int := if i < j then s.at i else 0
theorem Six.all {w : World} {b : Nat} {s : Sp} (h : Six w b (gN s 6)) : Six w b s.at := by
  intro i hi
  have := h i hi
  unfold gN at this
  rwa [if_pos hi] at this
theorem Six.zero {w : World} {b : Nat} (s : Sp) (h : Six w b (Sp.at ⟨0, 0, 0, 0, 0, 0⟩)) : Six w b (gN s 0) := by
  intro i hi
  have := h i hi
  rcases (show i = 0 ∨ i = 1 ∨ i = 2 ∨ i = 3 ∨ i = 4 ∨ i = 5 by omega) with rfl | rfl | rfl | rfl | rfl | rfl <;> exact this
end Go.Proofs.YtmiakknagjncpaaGreatDoor
