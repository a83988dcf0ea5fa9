/- Walks of package ring: what tells of outcomes, and count. -/
import Derived.Test.YtcdkocdjbpebpaaR3
namespace Go.Proofs.Ytcdkocdjbpebpaa
open Go.RowKit

/-- An outcome, by how many there are behind it; one that is missing is good. -/
def gd (zs : List Bool) (i : Nat) : Bool := zs.getD i true
/-- How many are good of those that have f to t - 1 behind them. -/
def cntR (zs : List Bool) (f : Nat) (t : Int) : Nat := cnt (gd zs) f (t - f).toNat
/-- What tells of outcomes: what is read lies in block b. -/
def tellV (b : Nat) : Value := .func (.func 51) #[] #[.pointer (some ⟨b, 0, none⟩)]

theorem mask1 (x : Int) (h0 : 0 ≤ x) (h : x < 18446744073709551616) : bits .and .u64 x 1 = x % 2 := by
  have := maskN x 1 (by omega) h0 h
  simpa using this

theorem bit_val (zs : List Bool) (i : Nat) (hl : zs.length ≤ 60) (hi : i < zs.length) : (bits .and .u64 ((val zs : Int) / 2 ^ i) 1 == 1) = gd zs i := by
  have hv := val_bd hl
  have e : (val zs : Int) / 2 ^ i = ((val zs / 2 ^ i : Nat) : Int) := by rw [Int.natCast_ediv, pow_cast]
  have hd : val zs / 2 ^ i ≤ val zs := Nat.div_le_self _ _
  have h2 := val_bit zs i
  rw [e]
  generalize val zs / 2 ^ i = q at *
  rw [mask1 _ (by omega) (by omega)]
  have e3 : ((q : Int) % 2) = ((zs.getD i false).toNat : Int) := by omega
  rw [e3]
  unfold gd
  have : zs.getD i true = zs.getD i false := by simp [List.getD, hi]
  rw [this]
  cases zs.getD i false <;> rfl

theorem gd_past {zs : List Bool} {i : Nat} (h : zs.length ≤ i) : gd zs i = true := by simp [gd, List.getD, h]

set_option maxHeartbeats 1000000 in
set_option maxRecDepth 100000 in
theorem tell_any (zs : List Bool) (b i : Nat) (w : World) (hl : zs.length ≤ 60) (hi : i ≤ 9007199254740992)
    (c0 : w.cell? ⟨b, 0, none⟩ = some (.int .i64 zs.length)) (c1 : w.cell? ⟨b, 1, none⟩ = some (.int .u64 (val zs))) :
    Calls Try.prog 51 #[.int .i64 i, .pointer (some ⟨b, 0, none⟩)] w fun e w' => e = .returned (.bool (gd zs i)) ∧ w' = w := by
  have hv := val_bd hl
  by_cases hlt : i < zs.length
  · have H : Hid ((bits .and .u64 ((val zs : Int) / 2 ^ i) 1 == 1) = gd zs i) := bit_val zs i hl hlt
    go_enter Try.func51, Try.ntmps51
    go_wp2
    go_ret
    exact ⟨ret_b (by rw [decide_eq_false (by omega), Bool.false_or]; exact H.out), rfl⟩
  · have H : Hid (gd zs i = true) := gd_past (by omega)
    go_enter Try.func51, Try.ntmps51
    go_wp2
    go_ret
    exact ⟨ret_b H.out.symm, rfl⟩

set_option maxHeartbeats 1000000 in
set_option maxRecDepth 100000 in
theorem rcount_any (zs : List Bool) (b f : Nat) (t : Int) (w : World) (hl : zs.length ≤ 60) (hf : f ≤ 60) (ht : t ≤ 100)
    (c0 : w.cell? ⟨b, 0, none⟩ = some (.int .i64 zs.length)) (c1 : w.cell? ⟨b, 1, none⟩ = some (.int .u64 (val zs))) :
    Calls Try.prog 38 #[tellV b, .int .i64 f, .int .i64 t] w fun e w' => e = .returned (.int .i64 (cntR zs f t)) ∧ w' = w := by
  unfold tellV
  go_enter Try.func38, Try.ntmps38
  go_wp2_with fail
  go_loop [7, 8] (fun x i => ∃ (j : Nat), j ≤ (t - f).toNat ∧ x = .int .i64 (cnt (gd zs) f j) ∧ i = .int .i64 (f + j : Nat)) (fun _ i => (t - intOf i).toNat)
  case atStart => exact ⟨0, by omega, rfl, rfl⟩
  case round =>
    obtain ⟨j, hj, rfl, rfl⟩ := hrel
    have hc := cnt_le (gd zs) f j
    by_cases hlt : ((f + j : Nat) : Int) < t
    · have HS : Hid (cnt (gd zs) f (j + 1) = cnt (gd zs) f j + (gd zs (f + j)).toNat) := rfl
      go_wp2_with fail
      refine (tell_any zs b (f + j) _ hl (by omega) c0 c1).mono ?_
      rintro e w3 ⟨rfl, rfl⟩
      cases hg : gd zs (f + j)
      · have HG : Hid (gd zs (f + j) = false) := hg
        clear hg
        go_wp2_with fail
        go_round
        case rel => exact ⟨j + 1, by omega, by rw [HS.out, HG.out]; rfl, by go_num⟩
        case measure => simp [intOf]; omega
      · have HG : Hid (gd zs (f + j) = true) := hg
        clear hg
        go_wp2_with fail
        go_round
        case rel => exact ⟨j + 1, by omega, by rw [HS.out, HG.out]; rfl, by go_num⟩
        case measure => simp [intOf]; omega
    · have HE : Hid (j = (t - f).toNat) := by show _ = _; omega
      go_wp2_with fail
      go_ret
      exact ⟨ret_i (congrArg (fun x => ((cnt (gd zs) f x : Nat) : Int)) HE.out), rfl⟩
end Go.Proofs.Ytcdkocdjbpebpaa
