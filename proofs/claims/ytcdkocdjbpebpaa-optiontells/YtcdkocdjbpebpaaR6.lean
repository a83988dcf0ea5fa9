/- Walks of package ring: Fine and Far. -/
import Derived.Test.YtcdkocdjbpebpaaR5
namespace Go.Proofs.Ytcdkocdjbpebpaa
open Go.RowKit

/-- Of each k outcomes, one behind the other, at least m are good. -/
def FineP (zs : List Bool) (m : Int) (k : Nat) : Prop := ∀ s, s < zs.length + 1 - k → m ≤ (cnt (gd zs) s k : Int)
def fineB (zs : List Bool) (m : Int) (k : Nat) : Bool := decide (∀ s, s < zs.length + 1 - k → m ≤ (cnt (gd zs) s k : Int))
theorem fineB_yes {zs : List Bool} {m : Int} {k : Nat} (h : FineP zs m k) : fineB zs m k = true := decide_eq_true h
theorem fineB_not {zs : List Bool} {m : Int} {k : Nat} (h : ¬ FineP zs m k) : fineB zs m k = false := decide_eq_false h
/-- How far it is from too few good ones. -/
def IsFar (zs : List Bool) (m : Int) (k n : Nat) : Prop := n ≤ k ∧ (cnt (gd zs) 0 (k - n) : Int) < m ∧ ∀ i, i < n → m ≤ (cnt (gd zs) 0 (k - i) : Int)

theorem IsFar.unique {zs : List Bool} {m : Int} {k n n' : Nat} (h : IsFar zs m k n) (h' : IsFar zs m k n') : n = n' := by
  obtain ⟨_, a, b⟩ := h
  obtain ⟨_, a', b'⟩ := h'
  rcases Nat.lt_trichotomy n n' with c | c | c
  · have := b' n c; omega
  · exact c
  · have := b n' c; omega

theorem count_at (zs : List Bool) (b : Nat) (s n : Nat) (f t : Int) (w : World) (hs : f = s) (ht : t = (s + n : Nat)) (hl : zs.length ≤ 60) (h60 : s ≤ 60) (h100 : n ≤ 40)
    (c0 : w.cell? ⟨b, 0, none⟩ = some (.int .i64 zs.length)) (c1 : w.cell? ⟨b, 1, none⟩ = some (.int .u64 (val zs))) :
    Calls Try.prog 38 #[tellV b, .int .i64 f, .int .i64 t] w fun e w' => e = .returned (.int .i64 (cnt (gd zs) s n)) ∧ w' = w := by
  subst hs ht
  refine (rcount_any zs b s (s + n : Nat) w hl h60 (by omega) c0 c1).mono ?_
  rintro e w' ⟨rfl, rfl⟩
  refine ⟨?_, rfl⟩
  unfold cntR; congr 5; omega

set_option maxHeartbeats 1000000 in
set_option maxRecDepth 100000 in
theorem far_in (N B m : Int) (k : Nat) (w : World) (b0 : 0 ≤ B) (m0 : 1 ≤ m) (mk : m ≤ k) (k6 : (k : Int) ≤ 6) :
    Calls Try.prog 23 #[.agg #[.int .i64 N, .int .u64 B], .int .i64 m, .int .i64 k] w fun e w' => ∃ n : Nat, e = .returned (.int .i64 n) ∧ IsFar (ringOf N B) m k n ∧ Below w.heap.size w w' := by
  have H1 : Hid (mayB m k = true) := mayB_mk m0 mk k6
  go_enter Try.func23, Try.ntmps23
  go_wp2_with fail
  refine (may_any _ _ _).mono ?_
  rintro e w0 ⟨rfl, rfl⟩
  rw [H1.out]
  go_wp2_with fail
  refine (viewOf_any _ _ _ b0).mono ?_
  rintro e w1 ⟨rfl, hb1⟩
  have hl := ringOf_len N B
  generalize hz : ringOf N B = zs at *
  have HZ : Hid (ringOf N B = zs) := hz
  clear hz
  have hv := val_bd hl
  have hb : Below w.heap.size w w1 := ((Below.refl _ _).alloc (by simp) _).trans (hb1.mono (by simp))
  clear hb1
  have s1 := hb.size
  unfold ringV
  go_wp2_with fail
  refine (outcomes_any zs _).mono ?_
  rintro e w2 ⟨rfl, rfl⟩
  have hend : Below w.heap.size w (w1.alloc (.cells #[.int .i64 zs.length, .int .u64 (val zs)] 59)) := hb.alloc s1 _
  go_wp2_with fail
  go_loop [8] (fun i => ∃ (n : Nat), n ≤ k ∧ Hid (∀ t, t < n → m ≤ (cnt (gd zs) 0 (k - t) : Int)) ∧ i = .int .i64 n) (fun i => (1 + (k : Int) - intOf i).toNat)
  case atStart => exact ⟨0, by omega, fun t ht => by omega, rfl⟩
  case round =>
    obtain ⟨n, hn, HI, rfl⟩ := hrel
    have hcl := cnt_le (gd zs) 0 (k - n)
    go_wp2_with fail
    refine (count_at zs _ 0 (k - n) _ _ _ (by omega) (by omega) hl (by omega) (by omega) (by simp) (by simp)).mono ?_
    rintro e w3 ⟨rfl, rfl⟩
    by_cases hc : (cnt (gd zs) 0 (k - n) : Int) < m
    · have HF : Hid (IsFar zs m k n) := ⟨hn, hc, HI.out⟩
      go_wp2_with fail
      go_ret
      exact ⟨n, rfl, by rw [HZ.out]; exact HF.out, hend⟩
    · go_wp2_with fail
      go_round
      case rel => exact ⟨n + 1, by omega, fun t ht => (by rcases Nat.lt_or_ge t n with h | h; exact HI.out t h; obtain rfl : t = n := (by omega); omega), by go_num⟩
      case measure => simp [intOf]; omega

set_option maxHeartbeats 1000000 in
set_option maxRecDepth 100000 in
theorem far_no (N B m k : Int) (w : World) (h : mayB m k = false) :
    Calls Try.prog 23 #[.agg #[.int .i64 N, .int .u64 B], .int .i64 m, .int .i64 k] w fun e w' => e = .returned (.int .i64 k) ∧ Below w.heap.size w w' := by
  have H1 : Hid (mayB m k = false) := h
  clear h
  go_enter Try.func23, Try.ntmps23
  go_wp2_with fail
  refine (may_any _ _ _).mono ?_
  rintro e w0 ⟨rfl, rfl⟩
  rw [H1.out]
  go_wp2
  go_ret
  exact ⟨rfl, (Below.refl _ _).alloc (by simp) _⟩
end Go.Proofs.Ytcdkocdjbpebpaa
