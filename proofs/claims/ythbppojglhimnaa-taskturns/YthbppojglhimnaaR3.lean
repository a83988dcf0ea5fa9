/- Walks of package ring: Put. -/
import Derived.Test.YthbppojglhimnaaR2
namespace Go.Proofs.Ythbppojglhimnaa
open Go.RowKit

theorem val_bd {zs : List Bool} (h : zs.length ≤ 60) : val zs ≤ 1152921504606846975 := by
  have h1 := val_lt zs
  have h2 : 2 ^ zs.length ≤ 2 ^ 60 := Nat.pow_le_pow_right (by omega) h
  have : (2 : Nat) ^ 60 = 1152921504606846976 := by decide
  omega

theorem maskN (x : Int) (n : Nat) (hn : n ≤ 60) (h0 : 0 ≤ x) (h : x < 18446744073709551616) : bits .and .u64 x (2 ^ n - 1) = x % 2 ^ n := by
  obtain ⟨a, rfl⟩ := Int.eq_ofNat_of_zero_le h0
  have hp : 0 < 2 ^ n := Nat.two_pow_pos n
  have h2 : 2 ^ n ≤ 2 ^ 60 := Nat.pow_le_pow_right (by omega) hn
  have e60 : (2 : Nat) ^ 60 = 1152921504606846976 := by decide
  have e := bits_and_u64_nat a (2 ^ n - 1) (by omega) (by omega)
  rw [Nat.and_two_pow_sub_one_eq_mod a n] at e
  have e1 : ((2 ^ n - 1 : Nat) : Int) = (2 : Int) ^ n - 1 := by
    rw [Int.natCast_sub (by omega), pow_cast]; rfl
  rw [e1, Int.natCast_emod, pow_cast] at e
  exact e

theorem put_val (zs : List Bool) (g : Bool) (n : Nat) (hn : n ≤ 60) (hl : zs.length ≤ 60) (x : Int) (hx : x = val zs * 2 + g.toNat) :
    bits .and .u64 x (2 ^ n - 1) = (val ((g :: zs).take n) : Int) := by
  have hv := val_bd hl
  have hg := toNat_lt g
  rw [maskN x n hn (by omega) (by omega), val_take, Int.natCast_emod, pow_cast, hx]
  congr 1; simp only [val]; omega

theorem put_back {zs : List Bool} {g : Bool} {n : Nat} {x m : Int} (hl : zs.length ≤ 60) (hn : n ≤ 60) (hz : min (zs.length + 1) 60 = n) (hx : x = val zs * 2 + g.toNat) (hm : m = 2 ^ n - 1) :
    Ending.returned (.agg #[.int .i64 (n : Int), .int .u64 (bits .and .u64 x m)]) = .returned (ringV ((g :: zs).take 60)) := by
  have e : (g :: zs).take 60 = (g :: zs).take n := by
    rcases Nat.lt_or_ge (zs.length + 1) 60 with h | h
    · rw [List.take_of_length_le (by simp; omega), List.take_of_length_le (by simp; omega)]
    · rw [show n = 60 by omega]
  unfold ringV
  rw [e, hm, put_val zs g n hn hl x hx]
  simp; omega

theorem mask_num {n : Nat} (h : n ≤ 60) : IntKind.u64.wrap (IntKind.u64.wrap (2 ^ n) - 1) = 2 ^ n - 1 := by
  have hp : 0 < 2 ^ n := Nat.two_pow_pos n
  have h2 : 2 ^ n ≤ 2 ^ 60 := Nat.pow_le_pow_right (by omega) h
  have e60 : (2 : Nat) ^ 60 = 1152921504606846976 := by decide
  have e1 := pow_cast n
  rw [IntKind.wrap_u64, IntKind.wrap_u64]; omega
end Go.Proofs.Ythbppojglhimnaa
