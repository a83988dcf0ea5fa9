/- The walk of the statement RingFar: it returns true, and writes nothing that was there. -/
import Derived.Test.YtiagcihghalomaaV2
namespace Go.Proofs.Ytiagcihghalomaa
open Go.RowKit

theorem gd_put0 (zs : List Bool) (g : Bool) : gd ((g :: zs).take 60) 0 = g := rfl
theorem gd_put1 (zs : List Bool) (g : Bool) {i : Nat} (h : i < 59) : gd ((g :: zs).take 60) (i + 1) = gd zs i := by
  simp [gd, List.getD, h]
theorem cnt_put (zs : List Bool) (g : Bool) {j : Nat} (h : j < 59) : cnt (gd ((g :: zs).take 60)) 0 (j + 1) = g.toNat + cnt (gd zs) 0 j := by
  rw [cnt_head, gd_put0]
  congr 1
  refine cnt_congr fun i hi => ?_
  rw [Nat.zero_add, Nat.zero_add, Nat.add_comm 1 i, gd_put1 _ _ (by omega)]
theorem cnt_one (f : Nat → Bool) (a n : Nat) : cnt f a (n + 1) ≤ cnt f a n + 1 := by
  have := toNat_lt (f (a + n)); simp only [cnt]; omega

theorem far_bad {zs : List Bool} {m : Int} {k n : Nat} (k0 : 1 ≤ k) (k6 : k ≤ 6) (h : IsFar zs m k n) : IsFar ((false :: zs).take 60) m k (n - 1) := by
  obtain ⟨h0, h1, h2⟩ := h
  rcases Nat.eq_zero_or_pos n with rfl | hn
  · refine ⟨by omega, ?_, fun i hi => by omega⟩
    obtain ⟨j, rfl⟩ : ∃ j, k = j + 1 := ⟨k - 1, by omega⟩
    rw [Nat.zero_sub, Nat.sub_zero, cnt_put _ _ (by omega)]
    have := cnt_mono (gd zs) 0 (show j ≤ j + 1 by omega)
    rw [Nat.sub_zero] at h1
    simp; omega
  · refine ⟨by omega, ?_, fun i hi => ?_⟩
    · rw [show k - (n - 1) = k - n + 1 by omega, cnt_put _ _ (by omega)]; simpa using h1
    · rw [show k - i = k - (i + 1) + 1 by omega, cnt_put _ _ (by omega)]; simpa using h2 (i + 1) (by omega)

theorem far_good {zs : List Bool} {m : Int} {k n n' : Nat} (k6 : k ≤ 6) (h : IsFar zs m k n) (h' : IsFar ((true :: zs).take 60) m k n') : n ≤ n' := by
  obtain ⟨h0, h1, h2⟩ := h
  obtain ⟨g0, g1, g2⟩ := h'
  rcases Nat.lt_or_ge n' n with c | c
  · have a := h2 n' c
    obtain ⟨j, hj⟩ : ∃ j, k - n' = j + 1 := ⟨k - n' - 1, by omega⟩
    rw [hj, cnt_put _ _ (by omega)] at g1
    rw [hj] at a
    have := cnt_one (gd zs) 0 j
    simp at g1; omega
  · exact c

theorem far_zero {zs : List Bool} {m : Int} {k n : Nat} (h : IsFar zs m k n) : (n = 0 ↔ (cnt (gd zs) 0 k : Int) < m) := by
  obtain ⟨h0, h1, h2⟩ := h
  constructor
  · rintro rfl; simpa using h1
  · intro hc
    rcases Nat.eq_zero_or_pos n with h | h
    · exact h
    · have := h2 0 h; simp at this; omega

set_option maxHeartbeats 2000000 in
set_option maxRecDepth 100000 in
theorem far_law_in (xs : List Bool) (v : Value) (m : Int) (k : Nat) (w : World) (h : Row w v xs) (hx : xs.length ≤ 60) (m0 : 1 ≤ m) (mk : m ≤ k) (k6 : (k : Int) ≤ 6) :
    Calls Try.prog 5 #[v, .int .i64 m, .int .i64 k] w fun e w' => e = .returned (.bool true) ∧ Below w.heap.size w w' := by
  have h' := h
  have H1 : Hid (mayB m k = true) := mayB_mk m0 mk k6
  obtain ⟨a, cap, rfl, r1, r2, _⟩ := h'
  unfold maxLen at r2
  have hzl := ofZ_len xs
  have hzn : (ofZ xs).length ≤ xs.length ∧ xs.length ≤ (ofZ xs).length := by unfold ofZ; simp; omega
  generalize hz : ofZ xs = zs at *
  have HZ : Hid (ofZ xs = zs) := hz
  clear hz
  obtain ⟨hz1, hz2⟩ := hzn
  have hv := val_bd hzl
  obtain ⟨pf, hpf⟩ : ∃ ps, (false :: zs).take 60 = ps := ⟨_, rfl⟩
  have HPF : Hid ((false :: zs).take 60 = pf) := hpf
  have hfl : pf.length ≤ 60 := by rw [← hpf]; simp; omega
  obtain ⟨pt, hpt⟩ : ∃ ps, (true :: zs).take 60 = ps := ⟨_, rfl⟩
  have HPT : Hid ((true :: zs).take 60 = pt) := hpt
  have htl : pt.length ≤ 60 := by rw [← hpt]; simp; omega
  clear hpf hpt
  go_enter Try.func5, Try.ntmps5
  go_wp2_with fail
  refine (awake3_any _).mono ?_
  rintro e w1 ⟨rfl, hb1⟩
  have q1 := h.later hb1
  go_wp2_with fail
  refine (may_any _ _ _).mono ?_
  rintro e w1' ⟨rfl, rfl⟩
  rw [H1.out]
  go_wp2_with fail
  refine (of_any xs _ _ q1 (by omega)).mono ?_
  rintro e w2 ⟨rfl, hb2⟩
  rw [HZ.out]
  replace hb2 := hb1.trans (hb2.mono hb1.size)
  clear hb1 q1 h
  unfold ringV
  go_wp2_with fail
  refine (far_ring zs m k _ hzl m0 mk k6).mono ?_
  rintro e w3 ⟨n, rfl, hn, hb3⟩
  rw [Int.toNat_natCast] at hn
  have t2 : Two (w2.alloc (.cells #[.int .i64 zs.length, .int .u64 (val zs)] 24)) w2.heap.size (.int .i64 zs.length) (.int .u64 (val zs)) := by simp [Two]
  have t3 := t2.later hb3
  clear t2
  have hb23 : Below w2.heap.size w2 w3 := ((Below.refl _ _).alloc (by simp) _).trans (hb3.mono (by simp))
  have s2 : w2.heap.size < w3.heap.size := by have := hb3.size; simp at this; omega
  replace hb3 := hb2.trans (hb23.mono hb2.size)
  have s0 := hb2.size
  clear hb2 hb23
  obtain ⟨a0, a1, a2, a3⟩ := id t3
  go_wp2_with fail
  refine (put_ring zs false _ hzl).mono ?_
  rintro e w4 ⟨rfl, hb4⟩
  rw [HPF.out]
  have t4 := t3.later hb4
  replace hb4 := hb3.trans (hb4.mono hb3.size)
  clear a0 a1 a2 a3 hb3 t3
  obtain ⟨a0, a1, a2, a3⟩ := id t4
  unfold ringV
  go_wp2_with fail
  refine (far_ring pf m k _ hfl m0 mk k6).mono ?_
  rintro e w5 ⟨nf, rfl, hnf, hb5⟩
  rw [Int.toNat_natCast] at hnf
  obtain rfl : nf = n - 1 := hnf.unique (by rw [← HPF.out]; exact far_bad (by omega) (by omega) hn)
  have t5 := t4.later hb5
  replace hb5 := hb4.trans (hb5.mono hb4.size)
  clear a0 a1 a2 a3 hb4 t4 hnf
  obtain ⟨a0, a1, a2, a3⟩ := id t5
  have hnk := hn.1
  go_wp2_with fail
  refine (put_ring zs true _ hzl).mono ?_
  rintro e w6 ⟨rfl, hb6⟩
  rw [HPT.out]
  have t6 := t5.later hb6
  replace hb6 := hb5.trans (hb6.mono hb5.size)
  clear a0 a1 a2 a3 hb5 t5
  obtain ⟨a0, a1, a2, a3⟩ := id t6
  unfold ringV
  go_wp2_with fail
  refine (far_ring pt m k _ htl m0 mk k6).mono ?_
  rintro e w7 ⟨nt, rfl, hnt, hb7⟩
  rw [Int.toNat_natCast] at hnt
  have ent : n ≤ nt := far_good (by omega) hn (by rw [HPT.out]; exact hnt)
  have t7 := t6.later hb7
  replace hb7 := hb6.trans (hb7.mono hb6.size)
  clear a0 a1 a2 a3 hb6 t6
  have hn0 := far_zero hn
  have HG : Hid (k ≤ zs.length → goodR zs k = cnt (gd zs) 0 k) := fun hk => by rw [goodR_nat, show min k zs.length = k by omega]
  have HN : Hid (IsFar zs m k n) := hn
  have hntk := hnt.1
  clear hn hnt
  have ws : w.heap.size ≤ w2.heap.size := s0
  rcases Nat.eq_zero_or_pos n with rfl | hpos
  · have hc := hn0.1 rfl
    clear hn0
    by_cases hk : (k : Int) ≤ xs.length
    · have hgk := HG.out (by omega)
      obtain ⟨a0, a1, a2, a3⟩ := id t7
      go_wp2_with fail
      refine (good_ring zs k _ hzl).mono ?_
      rintro e w8 ⟨rfl, hb8⟩
      rw [hgk]
      clear hgk
      have t8 := t7.later hb8
      clear a0 a1 a2 a3 t7
      replace hb8 := hb7.trans (hb8.mono hb7.size)
      clear hb7
      generalize cnt (gd zs) 0 k = ck at *
      go_wp2_with fail
      go_loopw [11] (fun i wr => ∃ (j : Nat) (ys : List Bool), j ≤ 0 ∧ i = .int .i64 j ∧ Two wr w2.heap.size (.int .i64 ys.length) (.int .u64 (val ys)) ∧ ys.length ≤ 60 ∧ Hid (IsFar ys m k (0 - j)) ∧ Below w.heap.size w wr) (fun i _ => ((0 : Int) - intOf i).toNat)
      case atStart => exact ⟨0, zs, by omega, rfl, t8, hzl, HN, by assumption⟩
      case round =>
        obtain ⟨j, ys, hj, rfl, ty, hyl, HY, hby⟩ := hrel
        obtain ⟨y0, y1, y2, y3⟩ := id ty
        by_cases hlt : (j : Int) < 0
        · exact absurd hlt (by omega)
        · have HY0 : Hid (IsFar ys m k 0) := by have := HY.out; rwa [show 0 - j = 0 by omega] at this
          go_wp2_with fail
          refine (far_ring ys m k _ hyl m0 mk k6).mono ?_
          rintro e w9 ⟨ny, rfl, hny, hb9⟩
          rw [Int.toNat_natCast] at hny
          obtain rfl : ny = 0 := hny.unique HY0.out
          clear hny
          go_wp2
          go_ret
          exact ⟨rfl, hby.trans (hb9.mono hby.size)⟩
    · go_wp2_with fail
      go_loopw [11] (fun i wr => ∃ (j : Nat) (ys : List Bool), j ≤ 0 ∧ i = .int .i64 j ∧ Two wr w2.heap.size (.int .i64 ys.length) (.int .u64 (val ys)) ∧ ys.length ≤ 60 ∧ Hid (IsFar ys m k (0 - j)) ∧ Below w.heap.size w wr) (fun i _ => ((0 : Int) - intOf i).toNat)
      case atStart => exact ⟨0, zs, by omega, rfl, t7, hzl, HN, by assumption⟩
      case round =>
        obtain ⟨j, ys, hj, rfl, ty, hyl, HY, hby⟩ := hrel
        obtain ⟨y0, y1, y2, y3⟩ := id ty
        by_cases hlt : (j : Int) < 0
        · exact absurd hlt (by omega)
        · have HY0 : Hid (IsFar ys m k 0) := by have := HY.out; rwa [show 0 - j = 0 by omega] at this
          go_wp2_with fail
          refine (far_ring ys m k _ hyl m0 mk k6).mono ?_
          rintro e w9 ⟨ny, rfl, hny, hb9⟩
          rw [Int.toNat_natCast] at hny
          obtain rfl : ny = 0 := hny.unique HY0.out
          clear hny
          go_wp2
          go_ret
          exact ⟨rfl, hby.trans (hb9.mono hby.size)⟩
  · obtain ⟨p, rfl⟩ : ∃ p, n = p + 1 := ⟨n - 1, by omega⟩
    have hc : ¬ (cnt (gd zs) 0 k : Int) < m := fun h => by have := hn0.2 h; omega
    clear hn0
    rw [Nat.add_sub_cancel]
    by_cases hk : (k : Int) ≤ xs.length
    · have hgk := HG.out (by omega)
      obtain ⟨a0, a1, a2, a3⟩ := id t7
      go_wp2_with fail
      refine (good_ring zs k _ hzl).mono ?_
      rintro e w8 ⟨rfl, hb8⟩
      rw [hgk]
      clear hgk
      have t8 := t7.later hb8
      clear a0 a1 a2 a3 t7
      replace hb8 := hb7.trans (hb8.mono hb7.size)
      clear hb7
      generalize cnt (gd zs) 0 k = ck at *
      have hpn : ((p : Int) + 1 == 0) = false := by simp; omega
      have hcd : decide ((ck : Int) < m) = false := decide_eq_false (by omega)
      go_wp2_with fail
      go_loopw [11] (fun i wr => ∃ (j : Nat) (ys : List Bool), j ≤ (p + 1) ∧ i = .int .i64 j ∧ Two wr w2.heap.size (.int .i64 ys.length) (.int .u64 (val ys)) ∧ ys.length ≤ 60 ∧ Hid (IsFar ys m k ((p + 1) - j)) ∧ Below w.heap.size w wr) (fun i _ => (((p + 1) : Int) - intOf i).toNat)
      case atStart => exact ⟨0, zs, by omega, rfl, t8, hzl, HN, by assumption⟩
      case round =>
        obtain ⟨j, ys, hj, rfl, ty, hyl, HY, hby⟩ := hrel
        obtain ⟨y0, y1, y2, y3⟩ := id ty
        by_cases hlt : (j : Int) < (p + 1)
        · go_wp2_with fail
          refine (put_ring ys false _ hyl).mono ?_
          rintro e w9 ⟨rfl, hb9⟩
          have t9 := ty.later hb9
          clear y0 y1 y2 y3 ty
          obtain ⟨y0, y1, y2, y3⟩ := id t9
          have HY' : Hid (IsFar ((false :: ys).take 60) m k ((p + 1) - j - 1)) := far_bad (by omega) (by omega) HY.out
          have hpl : ((false :: ys).take 60).length ≤ 60 := by simp; omega
          generalize (false :: ys).take 60 = ps at *
          unfold ringV
          go_wp2_with fail
          go_roundw
          case rel => exact ⟨j + 1, ps, by omega, by go_num, t9.put _ _, hpl, by rw [show (p + 1) - (j + 1) = (p + 1) - j - 1 by omega]; exact HY', ((hby.trans (hb9.mono hby.size)).setCell (by simp; omega) _).setCell (by simp; omega) _⟩
          case measure => simp [intOf]; omega
        · have HY0 : Hid (IsFar ys m k 0) := by have := HY.out; rwa [show (p + 1) - j = 0 by omega] at this
          go_wp2_with fail
          refine (far_ring ys m k _ hyl m0 mk k6).mono ?_
          rintro e w9 ⟨ny, rfl, hny, hb9⟩
          rw [Int.toNat_natCast] at hny
          obtain rfl : ny = 0 := hny.unique HY0.out
          clear hny
          go_wp2
          go_ret
          exact ⟨rfl, hby.trans (hb9.mono hby.size)⟩
    · go_wp2_with fail
      go_loopw [11] (fun i wr => ∃ (j : Nat) (ys : List Bool), j ≤ (p + 1) ∧ i = .int .i64 j ∧ Two wr w2.heap.size (.int .i64 ys.length) (.int .u64 (val ys)) ∧ ys.length ≤ 60 ∧ Hid (IsFar ys m k ((p + 1) - j)) ∧ Below w.heap.size w wr) (fun i _ => (((p + 1) : Int) - intOf i).toNat)
      case atStart => exact ⟨0, zs, by omega, rfl, t7, hzl, HN, by assumption⟩
      case round =>
        obtain ⟨j, ys, hj, rfl, ty, hyl, HY, hby⟩ := hrel
        obtain ⟨y0, y1, y2, y3⟩ := id ty
        by_cases hlt : (j : Int) < (p + 1)
        · go_wp2_with fail
          refine (put_ring ys false _ hyl).mono ?_
          rintro e w9 ⟨rfl, hb9⟩
          have t9 := ty.later hb9
          clear y0 y1 y2 y3 ty
          obtain ⟨y0, y1, y2, y3⟩ := id t9
          have HY' : Hid (IsFar ((false :: ys).take 60) m k ((p + 1) - j - 1)) := far_bad (by omega) (by omega) HY.out
          have hpl : ((false :: ys).take 60).length ≤ 60 := by simp; omega
          generalize (false :: ys).take 60 = ps at *
          unfold ringV
          go_wp2_with fail
          go_roundw
          case rel => exact ⟨j + 1, ps, by omega, by go_num, t9.put _ _, hpl, by rw [show (p + 1) - (j + 1) = (p + 1) - j - 1 by omega]; exact HY', ((hby.trans (hb9.mono hby.size)).setCell (by simp; omega) _).setCell (by simp; omega) _⟩
          case measure => simp [intOf]; omega
        · have HY0 : Hid (IsFar ys m k 0) := by have := HY.out; rwa [show (p + 1) - j = 0 by omega] at this
          go_wp2_with fail
          refine (far_ring ys m k _ hyl m0 mk k6).mono ?_
          rintro e w9 ⟨ny, rfl, hny, hb9⟩
          rw [Int.toNat_natCast] at hny
          obtain rfl : ny = 0 := hny.unique HY0.out
          clear hny
          go_wp2
          go_ret
          exact ⟨rfl, hby.trans (hb9.mono hby.size)⟩

set_option maxHeartbeats 2000000 in
set_option maxRecDepth 100000 in
theorem law_far (xs : List Bool) (v : Value) (m k : Int) (w : World) (h : Row w v xs) :
    Calls Try.prog 5 #[v, .int .i64 m, .int .i64 k] w fun e w' => e = .returned (.bool true) ∧ Below w.heap.size w w' := by
  cases h1 : mayB m k
  · have H1 : Hid (mayB m k = false) := h1
    clear h1
    obtain ⟨a, cap, rfl, r1, r2, _⟩ := h
    go_enter Try.func5, Try.ntmps5
    go_wp2_with fail
    refine (awake3_any _).mono ?_
    rintro e w1 ⟨rfl, hb1⟩
    go_wp2_with fail
    refine (may_any _ _ _).mono ?_
    rintro e w1' ⟨rfl, rfl⟩
    rw [H1.out]
    go_wp2
    go_ret
    exact ⟨rfl, hb1⟩
  · obtain ⟨m0, mk, k6⟩ := mayB_of h1
    by_cases c : xs.length ≤ 60
    · obtain ⟨K, rfl⟩ := Int.eq_ofNat_of_zero_le (show 0 ≤ k by omega)
      exact far_law_in xs v m K w h c m0 mk k6
    · have H1 : Hid (mayB m k = true) := h1
      clear h1
      obtain ⟨a, cap, rfl, r1, r2, _⟩ := h
      unfold maxLen at r2
      go_enter Try.func5, Try.ntmps5
      go_wp2_with fail
      refine (awake3_any _).mono ?_
      rintro e w1 ⟨rfl, hb1⟩
      go_wp2_with fail
      refine (may_any _ _ _).mono ?_
      rintro e w1' ⟨rfl, rfl⟩
      rw [H1.out]
      go_wp2
      go_ret
      exact ⟨rfl, hb1⟩
end Go.Proofs.Ytiagcihghalomaa
