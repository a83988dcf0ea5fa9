/- Walks of package ring: Put. -/
import Derived.Test.YtcdkocdjbpebpaaR2
namespace Go.Proofs.Ytcdkocdjbpebpaa
open Go.RowKit

theorem val_bd {zs : List Bool} (h : zs.length ≤ 60) : val zs ≤ 1152921504606846975 := by
  have h1 := val_lt zs
  have h2 : 2 ^ zs.length ≤ 2 ^ 60 := Nat.pow_le_pow_right (by omega) h
  have : (2 : Nat) ^ 60 = 1152921504606846976 := by decide
  omega

theorem maskN (x : Int) (n : Nat) (hn : n ≤ 60) (h0 : 0 ≤ x) (h : x < 18446744073709551616) : bits .and .u64 x (2 ^ n - 1) = x % 2 ^ n := by
  obtain ⟨a, rfl⟩ := Int.eq_ofNat_of_zero_le h0
  have hp : 0 < 2 ^ n := Nat.two_pow_pos n
  have h2 : 2 ^ n ≤ 2 ^ 60 := Nat.pow_le_pow_right (by omega) hn
  have e60 : (2 : Nat) ^ 60 = 1152921504606846976 := by decide
  have e := bits_and_u64_nat a (2 ^ n - 1) (by omega) (by omega)
  rw [Nat.and_two_pow_sub_one_eq_mod a n] at e
  have e1 : ((2 ^ n - 1 : Nat) : Int) = (2 : Int) ^ n - 1 := by
    rw [Int.natCast_sub (by omega), pow_cast]; rfl
  rw [e1, Int.natCast_emod, pow_cast] at e
  exact e

theorem put_val (zs : List Bool) (g : Bool) (n : Nat) (hn : n ≤ 60) (hl : zs.length ≤ 60) (x : Int) (hx : x = val zs * 2 + g.toNat) :
    bits .and .u64 x (2 ^ n - 1) = (val ((g :: zs).take n) : Int) := by
  have hv := val_bd hl
  have hg := toNat_lt g
  rw [maskN x n hn (by omega) (by omega), val_take, Int.natCast_emod, pow_cast, hx]
  congr 1; simp only [val]; omega

theorem put_back {zs : List Bool} {g : Bool} {n : Nat} {x m : Int} (hl : zs.length ≤ 60) (hn : n ≤ 60) (hz : min (zs.length + 1) 60 = n) (hx : x = val zs * 2 + g.toNat) (hm : m = 2 ^ n - 1) :
    Ending.returned (.agg #[.int .i64 (n : Int), .int .u64 (bits .and .u64 x m)]) = .returned (ringV ((g :: zs).take 60)) := by
  have e : (g :: zs).take 60 = (g :: zs).take n := by
    rcases Nat.lt_or_ge (zs.length + 1) 60 with h | h
    · rw [List.take_of_length_le (by simp; omega), List.take_of_length_le (by simp; omega)]
    · rw [show n = 60 by omega]
  unfold ringV
  rw [e, hm, put_val zs g n hn hl x hx]
  simp; omega

theorem mask_num {n : Nat} (h : n ≤ 60) : IntKind.u64.wrap (IntKind.u64.wrap (2 ^ n) - 1) = 2 ^ n - 1 := by
  have hp : 0 < 2 ^ n := Nat.two_pow_pos n
  have h2 : 2 ^ n ≤ 2 ^ 60 := Nat.pow_le_pow_right (by omega) h
  have e60 : (2 : Nat) ^ 60 = 1152921504606846976 := by decide
  have e1 := pow_cast n
  rw [IntKind.wrap_u64, IntKind.wrap_u64]; omega

set_option maxHeartbeats 1000000 in
set_option maxRecDepth 100000 in
theorem put_any (N B : Int) (g : Bool) (w : World) (b0 : 0 ≤ B) :
    Calls Try.prog 20 #[.agg #[.int .i64 N, .int .u64 B], .bool g] w fun e w' => e = .returned (ringV ((g :: ringOf N B).take 60)) ∧ Below w.heap.size w w' := by
  go_enter Try.func20, Try.ntmps20
  go_wp2_with fail
  refine (viewOf_any _ _ _ b0).mono ?_
  rintro e w1 ⟨rfl, hb1⟩
  have hl := ringOf_len N B
  generalize hz : ringOf N B = zs at *
  have HZ : Hid (ringOf N B = zs) := hz
  clear hz
  have hv := val_bd hl
  have c0 : w1.cell? ⟨w.heap.size + 1, 0, none⟩ = some (.int .i64 0) := (hb1.cell (p := ⟨w.heap.size + 1, 0, none⟩) (by simp)).trans (by simp)
  have c1 : w1.cell? ⟨w.heap.size + 1, 1, none⟩ = some (.int .u64 0) := (hb1.cell (p := ⟨w.heap.size + 1, 1, none⟩) (by simp)).trans (by simp)
  have f0 : w1.frozen? ⟨w.heap.size + 1, 0, none⟩ = false := (hb1.frozen (p := ⟨w.heap.size + 1, 0, none⟩) (by simp)).trans (by simp)
  have f1 : w1.frozen? ⟨w.heap.size + 1, 1, none⟩ = false := (hb1.frozen (p := ⟨w.heap.size + 1, 1, none⟩) (by simp)).trans (by simp)
  have hb : Below w.heap.size w w1 := (((Below.refl _ _).alloc (by simp) _).alloc (by simp) _).trans (hb1.mono (by simp; omega))
  have s1 : w.heap.size + 1 < w1.heap.size := by have := hb1.size; simp at this; omega
  clear hb1
  unfold ringV
  cases g
  · by_cases hn : zs.length = 60
    · go_wp2_with fail
      go_region
      go_wp2_with fail
      refine bodyPost_ret (v := .agg #[.int .i64 (60 : Nat), .int .u64 (bits .and .u64 (val zs * 2) 1152921504606846975)]) ?_ rfl ⟨?_, ?_⟩
      · simp [results, Try.results20, go_sem, c0, c1, s1]
      · rw [HZ.out]; exact put_back hl (by omega) (by omega) (by simp) (by decide)
      · exact (((hb.setCell (by simp) _).setCell (by simp) _).alloc (by simp; omega) _).drew
    · go_wp2_with fail
      go_region
      go_wp2_with fail
      refine bodyPost_ret (v := .agg #[.int .i64 (zs.length + 1 : Nat), .int .u64 (bits .and .u64 (val zs * 2) (IntKind.u64.wrap (IntKind.u64.wrap (2 ^ (zs.length + 1)) - 1)))]) ?_ rfl ⟨?_, ?_⟩
      · simp [results, Try.results20, go_sem, c0, c1, s1]
      · rw [HZ.out]; exact put_back hl (by omega) (by omega) (by simp) (mask_num (by omega))
      · exact (((hb.setCell (by simp) _).setCell (by simp) _).alloc (by simp; omega) _).drew
  · by_cases hn : zs.length = 60
    · go_wp2_with fail
      go_region
      go_wp2_with fail
      refine bodyPost_ret (v := .agg #[.int .i64 (60 : Nat), .int .u64 (bits .and .u64 (val zs * 2 + 1) 1152921504606846975)]) ?_ rfl ⟨?_, ?_⟩
      · simp [results, Try.results20, go_sem, c0, c1, s1]
      · rw [HZ.out]; exact put_back hl (by omega) (by omega) (by simp) (by decide)
      · exact (((hb.setCell (by simp) _).setCell (by simp) _).alloc (by simp; omega) _).drew
    · go_wp2_with fail
      go_region
      go_wp2_with fail
      refine bodyPost_ret (v := .agg #[.int .i64 (zs.length + 1 : Nat), .int .u64 (bits .and .u64 (val zs * 2 + 1) (IntKind.u64.wrap (IntKind.u64.wrap (2 ^ (zs.length + 1)) - 1)))]) ?_ rfl ⟨?_, ?_⟩
      · simp [results, Try.results20, go_sem, c0, c1, s1]
      · rw [HZ.out]; exact put_back hl (by omega) (by omega) (by simp) (mask_num (by omega))
      · exact (((hb.setCell (by simp) _).setCell (by simp) _).alloc (by simp; omega) _).drew
end Go.Proofs.Ytcdkocdjbpebpaa
