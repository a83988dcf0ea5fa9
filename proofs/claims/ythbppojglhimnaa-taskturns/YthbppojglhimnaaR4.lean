/- Walks of package ring: what tells of outcomes, and count. -/
import Derived.Test.YthbppojglhimnaaR3
namespace Go.Proofs.Ythbppojglhimnaa
open Go.RowKit

/-- An outcome, by how many there are behind it; one that is missing is good. -/
def gd (zs : List Bool) (i : Nat) : Bool := zs.getD i true
/-- How many are good of those that have f to t - 1 behind them. -/
def cntR (zs : List Bool) (f : Nat) (t : Int) : Nat := cnt (gd zs) f (t - f).toNat
theorem mask1 (x : Int) (h0 : 0 ≤ x) (h : x < 18446744073709551616) : bits .and .u64 x 1 = x % 2 := by
  have := maskN x 1 (by omega) h0 h
  simpa using this

theorem bit_val (zs : List Bool) (i : Nat) (hl : zs.length ≤ 60) (hi : i < zs.length) : (bits .and .u64 ((val zs : Int) / 2 ^ i) 1 == 1) = gd zs i := by
  have hv := val_bd hl
  have e : (val zs : Int) / 2 ^ i = ((val zs / 2 ^ i : Nat) : Int) := by rw [Int.natCast_ediv, pow_cast]
  have hd : val zs / 2 ^ i ≤ val zs := Nat.div_le_self _ _
  have h2 := val_bit zs i
  rw [e]
  generalize val zs / 2 ^ i = q at *
  rw [mask1 _ (by omega) (by omega)]
  have e3 : ((q : Int) % 2) = ((zs.getD i false).toNat : Int) := by omega
  rw [e3]
  unfold gd
  have : zs.getD i true = zs.getD i false := by simp [List.getD, hi]
  rw [this]
  cases zs.getD i false <;> rfl

theorem gd_past {zs : List Bool} {i : Nat} (h : zs.length ≤ i) : gd zs i = true := by simp [gd, List.getD, h]
end Go.Proofs.Ythbppojglhimnaa
