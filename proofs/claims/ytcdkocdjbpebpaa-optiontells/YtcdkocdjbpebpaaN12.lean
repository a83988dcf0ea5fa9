/- The library's sort: what is scattered, where the halves were too unlike. -/
import Derived.Test.YtcdkocdjbpebpaaN11
import Derived.Test.YtcdkocdjbpebpaaR3
import Derived.Lib.ItoaNum
namespace Go.Proofs.Ytcdkocdjbpebpaa
open Go.RowKit Go.Shelf
open Go.Sort (SWO swp HoldsK putRowK PermIn SortedIn)

def PowE (x : Nat) (w : World) (e : Ending) (w' : World) : Prop := ∃ k : Nat, k ≤ 10 ∧ x < 2 ^ k ∧ 2 ^ k ≤ 2 * x ∧ e = .returned (.int .u64 ((2 ^ k : Nat) : Int)) ∧ w' = w
theorem len_facts (x : Nat) (h0 : 0 < x) (h : x ≤ 1000) : Go.Lib.bitLen x ≤ 10 ∧ x < 2 ^ Go.Lib.bitLen x ∧ 2 ^ Go.Lib.bitLen x ≤ 2 * x := by
  obtain ⟨h1, h2, h3⟩ := Go.Lib.bitLenAux_bounds 64 x (by omega) (by omega)
  unfold Go.Lib.bitLen
  generalize Go.Lib.bitLenAux 64 x = k at *
  have e : 2 ^ k = 2 * 2 ^ (k - 1) := by rw [← Nat.pow_succ']; congr 1; omega
  refine ⟨?_, h3, by omega⟩
  rcases Nat.lt_or_ge k 11 with hk | hk
  · omega
  · have : 2 ^ 10 ≤ 2 ^ (k - 1) := Nat.pow_le_pow_right (by omega) (by omega)
    omega

set_option maxHeartbeats 2000000 in
set_option maxRecDepth 100000 in
theorem pow_any (x : Nat) (w : World) (h0 : 0 < x) (h : x ≤ 1000) :
    Calls Try.prog 96 #[.int .i64 x] w (PowE x w) := by
  obtain ⟨h1, h2, h3⟩ := len_facts x h0 h
  obtain ⟨k, hk⟩ : ∃ k, Go.Lib.bitLen x = k := ⟨_, rfl⟩
  rw [hk] at h1 h2 h3
  have HK : Hid (Go.Lib.bitLen x = k) := hk
  have H : Hid (x < 2 ^ k ∧ 2 ^ k ≤ 2 * x) := ⟨h2, h3⟩
  clear hk h2 h3
  go_enter Try.func96, Try.ntmps96
  go_wp2_with fail
  refine (len_any x _ h).mono ?_
  rintro e w2 ⟨rfl, rfl⟩
  rw [HK.out]
  rcases (show k = 0 ∨ k = 1 ∨ k = 2 ∨ k = 3 ∨ k = 4 ∨ k = 5 ∨ k = 6 ∨ k = 7 ∨ k = 8 ∨ k = 9 ∨ k = 10 by omega) with rfl | rfl | rfl | rfl | rfl | rfl | rfl | rfl | rfl | rfl | rfl
  all_goals
    go_wp2
    go_ret
    exact ⟨_, h1, H.out.1, H.out.2, rfl, rfl⟩

theorem Kpt.over {P B : Nat} {w w1 w2 : World} (h : Kpt B w w1) (k : Kpt P w1 w2) (hP : w.heap.size ≤ P) : Kpt B w w2 :=
  ⟨k.os.trans h.os, k.tape.trans h.tape, k.output.trans h.output, Nat.le_trans h.size k.size, fun i hi h1 => (k.block i (Nat.lt_of_lt_of_le hi h.size) (by omega)).trans (h.block i hi h1)⟩
theorem Xor.kpt {P B : Nat} {w w' : World} {x : Int} (h : Xor P w x) (k : Kpt B w w') (hn : P ≠ B) : Xor P w' x :=
  ⟨k.cell h.1 hn, (World.frozen?_of_block (w := w) (k.block P (World.block_lt_of_cell? _ _ h.1) hn)).trans h.2⟩
theorem SrtD.past {P : Nat} {Bd Bs B o n c : Nat} {ty : Value} {w w' : World} {d : Array (Int × Int × Int)} (h : SrtD Bd Bs B o n c ty w d) (k : Kpt P w w') (h1 : P ≠ B) (h2 : P ≠ Bs) (h3 : Bd ≠ P) : SrtD Bd Bs B o n c ty w' d :=
  ⟨h.srt.past k h1 h2, k.cell h.f0 h3, k.cell h.f1 h3, h.far⟩
def BrkE (Bs B o n c : Nat) (ty : Value) (a b : Nat) (d : Array (Int × Int × Int)) (w : World) (e : Ending) (w' : World) : Prop := ∃ d', e = .returned (.tuple #[]) ∧ Srt Bs B o n c ty w' d' ∧ Kpt B w w' ∧ PermIn a b d d'

set_option maxHeartbeats 2000000 in
set_option maxRecDepth 100000 in
theorem brk14_any {Bs B o n c : Nat} {ty : Value} {w : World} {d : Array (Int × Int × Int)} (h : Srt Bs B o n c ty w d) (a b : Nat) (hab : a + 13 ≤ b) (hb : b ≤ n) :
    Calls Try.prog 68 #[.agg #[.func (.func 30) #[] #[.pointer (some ⟨Bs, 0, none⟩)], .func (.func 63) #[] #[.slice (some ⟨B, o, none⟩) n c, ty]], .int .i64 a, .int .i64 b] w (BrkE Bs B o n c ty a b d w) := by
  obtain ⟨m, hm⟩ : ∃ m : Nat, b - a = m := ⟨_, rfl⟩
  have hm' : (b : Int) - a = m := by omega
  have hD := (SrtD.new h).later ((Below.refl _ _).alloc (Nat.le_refl _) (.cells #[.int .u64 m] 109))
  have hX : Xor (w.heap.size + 1) ((w.alloc (.cells #[.func (.func 30) #[] #[.pointer (some ⟨Bs, 0, none⟩)], .func (.func 63) #[] #[.slice (some ⟨B, o, none⟩) n c, ty]] 82)).alloc (.cells #[.int .u64 m] 109)) m := ⟨by simp, by simp⟩
  have HB : Hid (Below w.heap.size w ((w.alloc (.cells #[.func (.func 30) #[] #[.pointer (some ⟨Bs, 0, none⟩)], .func (.func 63) #[] #[.slice (some ⟨B, o, none⟩) n c, ty]] 82)).alloc (.cells #[.int .u64 m] 109))) := ((Below.refl _ _).alloc (Nat.le_refl _) _).alloc (by simp) _
  have hsm := h.small
  have hPB : w.heap.size + 1 ≠ B := fun e => by have := h.lt; omega
  have hPV : w.heap.size + 1 ≠ Bs := fun e => by have := World.block_lt_of_cell? _ _ h.var; simp at this; omega
  clear h
  have hq4 : ((m : Int)).tdiv 4 = ((m / 4 : Nat) : Int) := by rw [Int.tdiv_eq_ediv_of_nonneg (by omega)]; omega
  obtain ⟨q, hq⟩ : ∃ q, m / 4 = q := ⟨_, rfl⟩
  rw [hq] at hq4
  have h1 : 4 * q ≤ m := by omega
  have h2 : m < 4 * q + 4 := by omega
  have HM : Hid (b - a = m) := hm
  have h3 : a + m = b := by omega
  clear hq hm
  have HAB : Hid (a + m = b) := h3
  have hmn : a + m ≤ n := by omega
  clear h3
  go_enter Try.func68, Try.ntmps68
  go_wp2_with fail
  generalize (w.alloc (.cells #[.func (.func 30) #[] #[.pointer (some ⟨Bs, 0, none⟩)], .func (.func 63) #[] #[.slice (some ⟨B, o, none⟩) n c, ty]] 82)).alloc (.cells #[.int .u64 m] 109) = W at *
  refine (pow_any m _ (by have := HAB.out; omega) (by omega)).mono ?_
  rintro e w2 ⟨k, hk, hk1, hk2, rfl, rfl⟩
  obtain ⟨M, hM⟩ : ∃ M : Nat, 2 ^ k = M := ⟨_, rfl⟩
  rw [hM] at hk1 hk2 ⊢
  have HMM : Hid (2 ^ k = M) := hM
  clear hM
  go_wp2_with fail
  go_loopw [9] (fun vi wr => ∃ (u : Nat) (dk : Array (Int × Int × Int)), vi = .int .i64 u ∧ (a + q * 2 ≤ u + 1 ∧ u ≤ a + q * 2 + 2) ∧ Hid (SrtD w.heap.size Bs B o n c ty wr dk ∧ (∃ y, Xor (w.heap.size + 1) wr y) ∧ Kpt B w wr ∧ PermIn a b d dk)) (fun vi _ => ((a : Int) + q * 2 + 3 - intOf vi).toNat)
  case atStart => exact ⟨a + q * 2 - 1, d, by congr 1; omega, by omega, hD, ⟨m, hX⟩, Kpt.of HB.out, Go.Sort.permIn_refl _ _ _⟩
  case round =>
    obtain ⟨u, dk, rfl, hu, HR⟩ := hrel
    clear hD hX HB
    by_cases ci : u ≤ a + q * 2 + 1
    · have ci' : ((u : Int) ≤ (a : Int) + q * 2 + 1) := by omega
      obtain ⟨x, hx⟩ := HR.out.2.1
      go_wp2_with fail
      refine (next_any (w.heap.size + 1) x _ hx).mono ?_
      rintro e w3 ⟨v, v0, v1, rfl, hX3, hK3⟩
      have HN : Hid (SrtD w.heap.size Bs B o n c ty w3 dk ∧ Xor (w.heap.size + 1) w3 v ∧ Kpt B w w3 ∧ PermIn a b d dk) := ⟨HR.out.1.past hK3 hPB hPV (by omega), hX3, HR.out.2.2.1.over hK3 (by omega), HR.out.2.2.2⟩
      clear hx hX3 hK3
      have hpow := pow_cast k
      obtain ⟨r, hr, hrM⟩ : ∃ r : Nat, bits .and .u64 v ((M : Int) - 1) = r ∧ r < M := by
        have e1 := maskN v k (by omega) v0 (by omega)
        rw [← pow_cast, HMM.out] at e1
        refine ⟨(v % (M : Int)).toNat, ?_, ?_⟩
        · rw [e1]; have := Int.emod_nonneg v (show (M : Int) ≠ 0 by omega); omega
        · have := Int.emod_lt_of_pos v (show (0 : Int) < M by omega); have := Int.emod_nonneg v (show (M : Int) ≠ 0 by omega); omega
      clear hpow
      by_cases cr : m ≤ r
      · have cr' : ((r : Int) ≥ m) := by omega
        have f1 := HN.out.1.f1
        go_wp2_with fail
        obtain ⟨w5, hs, h5, k5⟩ := HN.out.1.swap u (a + (r - m)) _ ((a : Int) + ((r : Int) - m)) rfl (by omega) (by omega) (by omega)
        rw [hs, Oper.upon_value]
        have HE : Hid (SrtD w.heap.size Bs B o n c ty w5 (swp dk u (a + (r - m))) ∧ (∃ y, Xor (w.heap.size + 1) w5 y) ∧ Kpt B w w5 ∧ PermIn a b d (swp dk u (a + (r - m)))) :=
          ⟨h5, ⟨v, HN.out.2.1.kpt k5 hPB⟩, HN.out.2.2.1.trans k5, Go.Sort.permIn_trans _ _ _ _ _ HN.out.2.2.2 (Go.Sort.swp_permIn _ _ _ _ _ (by omega) (by omega) (by omega) (by omega) (by rw [HN.out.1.srt.size]; omega))⟩
        clear hs h5 k5 f1 hr
        go_wp2
        go_roundw
        case rel => exact ⟨u + 1, _, by first | go_num | (congr 1; omega), by omega, HE⟩
        case measure => simp [intOf]; omega
      · have cr' : ¬ ((r : Int) ≥ m) := by omega
        have f1 := HN.out.1.f1
        go_wp2_with fail
        obtain ⟨w5, hs, h5, k5⟩ := HN.out.1.swap u (a + (r)) _ ((a : Int) + r) rfl (by omega) (by omega) (by omega)
        rw [hs, Oper.upon_value]
        have HE : Hid (SrtD w.heap.size Bs B o n c ty w5 (swp dk u (a + (r))) ∧ (∃ y, Xor (w.heap.size + 1) w5 y) ∧ Kpt B w w5 ∧ PermIn a b d (swp dk u (a + (r)))) :=
          ⟨h5, ⟨v, HN.out.2.1.kpt k5 hPB⟩, HN.out.2.2.1.trans k5, Go.Sort.permIn_trans _ _ _ _ _ HN.out.2.2.2 (Go.Sort.swp_permIn _ _ _ _ _ (by omega) (by omega) (by omega) (by omega) (by rw [HN.out.1.srt.size]; omega))⟩
        clear hs h5 k5 f1 hr
        go_wp2
        go_roundw
        case rel => exact ⟨u + 1, _, by first | go_num | (congr 1; omega), by omega, HE⟩
        case measure => simp [intOf]; omega
    · have ci' : ¬ ((u : Int) ≤ (a : Int) + q * 2 + 1) := by omega
      go_wp2
      go_end0
      exact ⟨dk, rfl, HR.out.1.srt, HR.out.2.2.1, HR.out.2.2.2⟩
end Go.Proofs.Ytcdkocdjbpebpaa
