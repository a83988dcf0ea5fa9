/- The walk of the statement RingCounts: it returns true, and writes nothing that was there. -/
import Derived.Test.YtiagcihghalomaaV2
namespace Go.Proofs.Ytiagcihghalomaa
open Go.RowKit

theorem keep2 {w5 w1 w2 : World} {p q : Addr} {u v : Value} (hb : Below w1.heap.size w1 w2) (h : w1.cell? p = some u ∧ w1.cell? q = some v ∧ Below w5.heap.size w5 w1) :
    w2.cell? p = some u ∧ w2.cell? q = some v ∧ Below w5.heap.size w5 w2 :=
  ⟨cell_later hb h.1, cell_later hb h.2.1, h.2.2.trans (hb.mono h.2.2.size)⟩
theorem keep2r {w5 w1 : World} {p q : Addr} {u v : Value} (h : w1.cell? p = some u ∧ w1.cell? q = some v ∧ Below w5.heap.size w5 w1) : Below w5.heap.size w5 w1 := h.2.2

set_option maxHeartbeats 2000000 in
set_option maxRecDepth 100000 in
theorem counts_in (zs : List Bool) (n : Nat) (w : World) (hl : zs.length ≤ 60) (hn : n ≤ 100) :
    Calls Try.prog 7 #[.agg #[.int .i64 zs.length, .int .u64 (val zs)], .int .i64 n] w fun e w' => e = .returned (.bool true) ∧ Below w.heap.size w w' := by
  have hv := val_bd hl
  go_enter Try.func7, Try.ntmps7
  go_wp2_with fail
  refine (awake3_any _).mono ?_
  rintro e w1 ⟨rfl, hb1⟩
  have a0 : w1.cell? ⟨w.heap.size, 0, none⟩ = some (.int .i64 zs.length) := (hb1.cell (p := ⟨w.heap.size, 0, none⟩) (by simp)).trans (by simp)
  have a1 : w1.cell? ⟨w.heap.size, 1, none⟩ = some (.int .u64 (val zs)) := (hb1.cell (p := ⟨w.heap.size, 1, none⟩) (by simp)).trans (by simp)
  replace hb1 : Below w.heap.size w w1 := ((Below.refl _ _).alloc (by simp) _).trans (hb1.mono (by simp))
  go_wp2_with fail
  refine (rmay_ring zs _ hl).mono ?_
  rintro e w2 ⟨rfl, hb2⟩
  have b0 := cell_later hb2 a0
  have b1 := cell_later hb2 a1
  replace hb2 := hb1.trans (hb2.mono hb1.size)
  clear a0 a1 hb1
  go_wp2_with fail
  refine (good_ring zs n _ hl).mono ?_
  rintro e w3 ⟨rfl, hb3⟩
  have c0 := cell_later hb3 b0
  have c1 := cell_later hb3 b1
  replace hb3 := hb2.trans (hb3.mono hb2.size)
  clear b0 b1 hb2
  go_wp2_with fail
  refine (good_ring zs (n + 1 : Nat) _ hl).mono ?_
  rintro e w4 ⟨rfl, hb4⟩
  have d0 := cell_later hb4 c0
  have d1 := cell_later hb4 c1
  replace hb4 := hb3.trans (hb4.mono hb3.size)
  clear c0 c1 hb3
  have h1 : goodR zs n ≤ goodR zs (n + 1 : Nat) := by rw [goodR_nat, goodR_nat]; exact cnt_mono _ _ (by omega)
  have h2 : goodR zs (n + 1 : Nat) ≤ goodR zs n + 1 := by
    rw [goodR_nat, goodR_nat]
    rcases Nat.lt_or_ge n zs.length with h | h
    · rw [show min (n + 1) zs.length = n + 1 by omega, show min n zs.length = n by omega, cnt]; have := toNat_lt (gd zs (0 + n)); omega
    · rw [show min (n + 1) zs.length = min n zs.length by omega]; omega
  have h3 : goodR zs n ≤ n := by rw [goodR_nat]; have := cnt_le (gd zs) 0 (min n zs.length); omega
  have H4 : Hid (goodR zs 60 = cnt (gd zs) 0 zs.length) := by show _ = _; have := goodR_nat zs 60; rw [show min 60 zs.length = zs.length by omega] at this; exact this
  generalize goodR zs n = ga at *
  generalize goodR zs (n + 1 : Nat) = gb at *
  go_wp2_with fail
  refine (list_ring zs _ hl).mono ?_
  rintro e w5 ⟨v, rfl, hown, hb5⟩
  have e0 := cell_later hb5 d0
  have e1 := cell_later hb5 d1
  have hrow := Row.own hown (by simp)
  replace hb5 := hb4.trans (hb5.mono hb4.size)
  clear d0 d1 hb4 hown
  have hrow' := hrow
  obtain ⟨a, cap, rfl, r1, r2, r3⟩ := hrow'
  rw [List.length_reverse] at r1 hrow ⊢
  go_wp2_with fail
  go_loop [9, 10] (fun x i => ∃ (j : Nat), j ≤ zs.length ∧ x = .int .i64 (cnt (gd zs) (zs.length - j) j) ∧ i = .int .i64 j) (fun _ i => ((zs.length : Int) - intOf i).toNat)
  case atStart => exact ⟨0, by omega, rfl, rfl⟩
  case round =>
    obtain ⟨j, hj, rfl, rfl⟩ := hrel
    have hc := cnt_le (gd zs) (zs.length - j) j
    by_cases hlt : (j : Int) < zs.length
    · obtain ⟨b, o, rfl, r4⟩ := r3 (by intro e; have := congrArg List.length e; simp at this; rw [this] at hlt; simp at hlt; omega)
      have hcell := r4 j _ (rev_at (by omega))
      have HS : Hid (cnt (gd zs) (zs.length - (j + 1)) (j + 1) = (gd zs (zs.length - 1 - j)).toNat + cnt (gd zs) (zs.length - j) j) := by
        show _ = _; rw [cnt_head, show zs.length - (j + 1) = zs.length - 1 - j by omega, show zs.length - 1 - j + 1 = zs.length - j by omega]
      cases hg : gd zs (zs.length - 1 - j)
      · have HG : Hid (gd zs (zs.length - 1 - j) = false) := hg
        rw [hg] at hcell
        clear hg r4 r3
        go_wp2_with fail
        go_round
        case rel => exact ⟨j + 1, by omega, by rw [HS.out, HG.out]; simp, by go_num⟩
        case measure => simp [intOf]; omega
      · have HG : Hid (gd zs (zs.length - 1 - j) = true) := hg
        rw [hg] at hcell
        clear hg r4 r3
        go_wp2_with fail
        go_round
        case rel => exact ⟨j + 1, by omega, by rw [HS.out, HG.out]; simp; omega, by go_num⟩
        case measure => simp [intOf]; omega
    · have hjk : j = zs.length := by omega
      subst hjk
      clear r3
      go_wp2_with fail
      have HO : Hid (ofZ zs.reverse = zs) := ofZ_rev hl
      have g1 : (ga : Int) ≤ gb := by omega
      have g2 : (gb : Int) ≤ ga + 1 := by omega
      have g3 : (ga : Int) ≤ n := by omega
      have hd1 : decide ((ga : Int) ≤ gb) = true := decide_eq_true g1
      have hd2 : decide ((gb : Int) ≤ ga + 1) = true := decide_eq_true g2
      have hw1 : IntKind.i64.wrap ((ga : Int) + 1) = ga + 1 := by rw [IntKind.wrap_i64]; omega
      have hd3 : decide ((ga : Int) ≤ n) = true := decide_eq_true g3
      generalize cnt (gd zs) 0 zs.length = all at *
      go_region_held3 (fun w' => w'.cell? ⟨w.heap.size, 0, none⟩ = some (.int .i64 zs.length) ∧ w'.cell? ⟨w.heap.size, 1, none⟩ = some (.int .u64 (val zs)) ∧ Below w5.heap.size w5 w')
        (first | exact keep2 (by assumption) (by assumption) | exact ⟨by simpa using e0, by simpa using e1, (Below.refl _ _).drew⟩)
        (first
        | (go_at_call 18; refine (good_ring zs 60 _ hl).mono ?_; rintro e w6 ⟨rfl, hb6⟩; rw [H4.out])
        | (go_at_call 13; refine (of_any zs.reverse _ _ (hrow.later (keep2r (by assumption))) (by simp; omega)).mono ?_; rintro e w7 ⟨rfl, hb7⟩; rw [HO.out]; unfold ringV))
      all_goals
        go_wp2
        go_ret
        exact ⟨rfl, hb5.trans ((keep2r (by assumption)).mono hb5.size)⟩

set_option maxHeartbeats 2000000 in
set_option maxRecDepth 100000 in
theorem law_counts (N B n : Int) (w : World) (b0 : 0 ≤ B) :
    Calls Try.prog 7 #[.agg #[.int .i64 N, .int .u64 B], .int .i64 n] w fun e w' => e = .returned (.bool true) ∧ Below w.heap.size w w' := by
  by_cases c : mayR N B = true ∧ 0 ≤ n ∧ n ≤ 100
  · obtain ⟨c1, c2, c3⟩ := c
    obtain ⟨e1, e2⟩ := ring_open c1 b0
    obtain ⟨K, rfl⟩ := Int.eq_ofNat_of_zero_le c2
    have := counts_in (ringOf N B) K w (ringOf_len N B) (by omega)
    rwa [← e1, ← e2] at this
  · cases h : mayR N B
    · have H : Hid (mayR N B = false) := h
      clear h c
      go_enter Try.func7, Try.ntmps7
      go_wp2_with fail
      refine (awake3_any _).mono ?_
      rintro e w1 ⟨rfl, hb1⟩
      have a0 : w1.cell? ⟨w.heap.size, 0, none⟩ = some (.int .i64 N) := (hb1.cell (p := ⟨w.heap.size, 0, none⟩) (by simp)).trans (by simp)
      have a1 : w1.cell? ⟨w.heap.size, 1, none⟩ = some (.int .u64 B) := (hb1.cell (p := ⟨w.heap.size, 1, none⟩) (by simp)).trans (by simp)
      replace hb1 : Below w.heap.size w w1 := ((Below.refl _ _).alloc (by simp) _).trans (hb1.mono (by simp))
      go_wp2_with fail
      refine (rmay_any N B _).mono ?_
      rintro e w2 ⟨rfl, hb2⟩
      rw [H.out]
      replace hb2 := hb1.trans (hb2.mono hb1.size)
      go_wp2
      go_ret
      exact ⟨rfl, hb2⟩
    · have H : Hid (mayR N B = true) := h
      have c' : n < 0 ∨ 100 < n := by
        rcases Int.lt_or_le n 0 with k | k
        · exact .inl k
        · exact .inr (by rcases Int.lt_or_le 100 n with k' | k'; exact k'; exact absurd ⟨h, k, k'⟩ c)
      clear h c
      go_enter Try.func7, Try.ntmps7
      go_wp2_with fail
      refine (awake3_any _).mono ?_
      rintro e w1 ⟨rfl, hb1⟩
      have a0 : w1.cell? ⟨w.heap.size, 0, none⟩ = some (.int .i64 N) := (hb1.cell (p := ⟨w.heap.size, 0, none⟩) (by simp)).trans (by simp)
      have a1 : w1.cell? ⟨w.heap.size, 1, none⟩ = some (.int .u64 B) := (hb1.cell (p := ⟨w.heap.size, 1, none⟩) (by simp)).trans (by simp)
      replace hb1 : Below w.heap.size w w1 := ((Below.refl _ _).alloc (by simp) _).trans (hb1.mono (by simp))
      go_wp2_with fail
      refine (rmay_any N B _).mono ?_
      rintro e w2 ⟨rfl, hb2⟩
      rw [H.out]
      replace hb2 := hb1.trans (hb2.mono hb1.size)
      rcases c' with c' | c'
      · go_wp2
        all_goals
          go_ret
          exact ⟨rfl, hb2⟩
      · go_wp2
        all_goals
          go_ret
          exact ⟨rfl, hb2⟩
end Go.Proofs.Ytiagcihghalomaa
