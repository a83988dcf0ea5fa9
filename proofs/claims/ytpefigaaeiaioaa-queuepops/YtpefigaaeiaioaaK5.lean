/- The statement on what is ordered. -/
import Derived.Test.YtpefigaaeiaioaaK4
namespace Go.Proofs.Ytpefigaaeiaioaa
open Go.RowKit
set_option linter.unusedVariables false

/-- How many of the first j items are x. -/
def cx (xs : List (Int × Int)) (x : Int × Int) (j : Nat) : Nat := (xs.take j).count x
theorem cx_le (xs : List (Int × Int)) (x : Int × Int) (j : Nat) : cx xs x j ≤ xs.length := by
  unfold cx
  have h1 := List.count_le_length (a := x) (l := xs.take j)
  have h2 : (xs.take j).length ≤ xs.length := by simp; omega
  omega
theorem cx_yes {xs : List (Int × Int)} {x : Int × Int} {j : Nat} (hj : j < xs.length) (h : atI xs j = x) : cx xs x (j + 1) = cx xs x j + 1 := by
  unfold cx; rw [List.take_add_one, atI_get hj, h]; simp
theorem cx_no {xs : List (Int × Int)} {x : Int × Int} {j : Nat} (hj : j < xs.length) (h : atI xs j ≠ x) : cx xs x (j + 1) = cx xs x j := by
  unfold cx; rw [List.take_add_one, atI_get hj, List.count_append]; simp [h]
theorem cx_end {xs ys : List (Int × Int)} (x : Int × Int) (p : ys.Perm xs) : cx xs x xs.length = cx ys x ys.length := by
  unfold cx; rw [List.take_length, List.take_length]; exact (p.count_eq x).symm

set_option maxHeartbeats 4000000 in
set_option maxRecDepth 100000 in
theorem law_sorts (xs : List (Int × Int)) (v : Value) (kx ix : Int) (w : World) (h : Its w v xs) :
    Calls Try.prog 4 #[v, .agg #[.int .i64 kx, .int .i64 ix]] w fun e w' => e = .returned (.bool true) ∧ Below w.heap.size w w' := by
  have HI : Hid (Its w v xs) := h
  obtain ⟨a, cap, rfl, h1, h2, _, h3⟩ := h
  have b0 : Below w.heap.size w (w.alloc (.cells #[.int .i64 kx, .int .i64 ix] 24)) := (Below.refl _ _).alloc (Nat.le_refl _) _
  have heq := item_eql4
  go_enter Try.func4, Try.ntmps4
  go_wp2_with fail
  refine (awake_any _).mono ?_
  rintro e w1 ⟨rfl, hb1⟩
  have x0 := cell_later (p := ⟨w.heap.size, 0, none⟩) hb1 (by simp; rfl)
  have x1 := cell_later (p := ⟨w.heap.size, 1, none⟩) hb1 (by simp; rfl)
  have HB1 : Hid (Below w.heap.size w w1) := below_next b0 hb1 (by simp)
  clear hb1 b0
  by_cases cl : (xs.length : Int) > 100
  · have cl' : decide ((xs.length : Int) > 100) = true := decide_eq_true cl
    go_wp2_with fail
    go_ret
    exact ⟨rfl, HB1.out⟩
  · have cl' : decide ((xs.length : Int) > 100) = false := decide_eq_false cl
    go_wp2_with fail
    refine (sort_any xs _ _ (HI.out.later HB1.out) (by omega)).mono ?_
    rintro e w2 ⟨v2, rfl, hown2, hb2⟩
    have x0 := cell_later hb2 x0
    have x1 := cell_later hb2 x1
    have HB2 : Hid (Below w.heap.size w w2 ∧ Its w2 v2 (srt xs)) := ⟨below_next HB1.out hb2 HB1.out.size, (Its.own hown2).1⟩
    have hls : (srt xs).length = xs.length := srt_len xs
    have HS : Hid (srtd (srt xs) ∧ (srt xs).Perm xs) := ⟨srt_srtd xs, srt_perm xs⟩
    clear hown2 hb2 HB1
    generalize srt xs = ss at *
    obtain ⟨a2, cap2, rfl, g1, g2, _, g3⟩ := id HB2.out.2
    have hls1 : (ss.length : Int) = xs.length := by omega
    have HLS : Hid (ss.length = xs.length) := hls
    have e3 : xs ≠ [] → ∃ b o, a = some ⟨b, o, none⟩ ∧ ∀ i, i < xs.length → w2.cell? ⟨b, o + i * 2, none⟩ = some (.int .i64 (atI xs i).1) ∧ w2.cell? ⟨b, o + i * 2 + 1, none⟩ = some (.int .i64 (atI xs i).2) := fun hx => by
      obtain ⟨b, o, e, h4⟩ := h3 hx
      exact ⟨b, o, e, fun i hi => ⟨cell_later HB2.out.1 (h4 i hi).1, cell_later HB2.out.1 (h4 i hi).2⟩⟩
    clear h3 hls hls1
    have hsl1 : ss.length ≤ 100 := by rw [HLS.out]; omega
    go_wp2_with fail
    go_loopw [7, 9] (fun c i wr => ∃ (j : Nat), j ≤ xs.length ∧ c = .int .i64 (cx xs (kx, ix) j) ∧ i = .int .i64 j ∧ Below w2.heap.size w2 wr) (fun _ i _ => ((xs.length : Int) - intOf i).toNat)
    case atStart => exact ⟨0, by omega, rfl, rfl, Below.refl _ _⟩
    case round =>
      obtain ⟨j, hj, rfl, rfl, hbw⟩ := hrel
      have hcx := cx_le xs (kx, ix) j
      by_cases hlt : (j : Int) < xs.length
      · obtain ⟨b, o, rfl, h4⟩ := e3 (by intro e; rw [e, List.length_nil] at hlt; omega)
        have c0 := cell_later hbw (h4 j (by omega)).1
        have c1 := cell_later hbw (h4 j (by omega)).2
        have x0 := cell_later hbw x0
        have x1 := cell_later hbw x1
        clear h4 e3 g3
        by_cases ce : atI xs j = (kx, ix)
        · have HC : Hid (cx xs (kx, ix) (j + 1) = cx xs (kx, ix) j + 1) := cx_yes (by omega) ce
          rw [ce] at c0 c1
          have hself := itB_self
          clear ce
          generalize cx xs (kx, ix) j = q at *
          go_wp2_with fail
          go_region
          all_goals
            go_wp2_with fail
            go_roundw
            case rel => exact ⟨j + 1, by omega, by rw [HC.out]; go_num, by go_num, hbw.drew⟩
            case measure => simp [intOf]; omega
        · have HC : Hid (cx xs (kx, ix) (j + 1) = cx xs (kx, ix) j) := cx_no (by omega) ce
          have hno : itB (atI xs j).1 (atI xs j).2 kx ix = false := decide_eq_false ce
          clear ce
          generalize cx xs (kx, ix) j = q at *
          go_wp2_with fail
          go_region
          all_goals
            go_wp2_with fail
            go_roundw
            case rel => exact ⟨j + 1, by omega, by rw [HC.out], by go_num, hbw.drew⟩
            case measure => simp [intOf]; omega
      · obtain rfl : j = xs.length := by omega
        have x0 := cell_later hbw x0
        have x1 := cell_later hbw x1
        have HB3 : Hid (Below w.heap.size w wr ∧ Its wr (.slice a2 ss.length cap2) ss) := ⟨below_next HB2.out.1 hbw HB2.out.1.size, HB2.out.2.later hbw⟩
        have f3 : ss ≠ [] → ∃ b o, a2 = some ⟨b, o, none⟩ ∧ ∀ i, i < ss.length → wr.cell? ⟨b, o + i * 2, none⟩ = some (.int .i64 (atI ss i).1) ∧ wr.cell? ⟨b, o + i * 2 + 1, none⟩ = some (.int .i64 (atI ss i).2) := fun hx => by
          obtain ⟨b, o, e, h4⟩ := g3 hx
          exact ⟨b, o, e, fun i hi => ⟨cell_later hbw (h4 i hi).1, cell_later hbw (h4 i hi).2⟩⟩
        have HQ : Hid (cx xs (kx, ix) xs.length = cx ss (kx, ix) ss.length) := cx_end (kx, ix) HS.out.2
        generalize hq : cx xs (kx, ix) xs.length = q at *
        clear hq e3 g3 hbw HB2 hj
        go_wp2_with fail
        go_loopw [8, 10] (fun c i wq => ∃ (j : Nat), j ≤ ss.length ∧ c = .int .i64 (cx ss (kx, ix) j) ∧ i = .int .i64 j ∧ Below wr.heap.size wr wq) (fun _ i _ => ((ss.length : Int) - intOf i).toNat)
        case atStart => exact ⟨0, by omega, rfl, rfl, Below.refl _ _⟩
        case round =>
          obtain ⟨j, hj, rfl, rfl, hbq⟩ := hrel
          have hcs := cx_le ss (kx, ix) j
          by_cases hls : (j : Int) < ss.length
          · obtain ⟨b, o, rfl, h4⟩ := f3 (by intro e; rw [e, List.length_nil] at hls; omega)
            have c0 := cell_later hbq (h4 j (by omega)).1
            have c1 := cell_later hbq (h4 j (by omega)).2
            have x0 := cell_later hbq x0
            have x1 := cell_later hbq x1
            clear f3
            obtain ⟨ib, hib⟩ : ∃ ib, itB (atI ss j).1 (atI ss j).2 kx ix = ib := ⟨_, rfl⟩
            have HC : Hid (cx ss (kx, ix) (j + 1) = cx ss (kx, ix) j + ib.toNat) := by
              cases ib
              · exact cx_no (by omega) (of_decide_eq_false hib)
              · exact cx_yes (by omega) (of_decide_eq_true hib)
            generalize cx ss (kx, ix) j = r at *
            rcases Nat.eq_zero_or_pos j with rfl | hj0
            · have hg0 : decide (((0 : Nat) : Int) > 0) = false := rfl
              clear h4
              simp only [Nat.zero_mul, Nat.add_zero] at c0 c1
              cases ib
              all_goals
                go_wp2_with fail
                go_region
              all_goals
                go_wp2_with fail
                go_quiet (fail)
              all_goals
                go_wp2_with fail
                go_roundw
                case rel => exact ⟨1, by omega, by rw [show (1 : Nat) = 0 + 1 from rfl, HC.out]; first | rfl | go_num, by go_num, drawn hbq _⟩
                case measure => simp [intOf]; omega
            · obtain ⟨k, rfl⟩ : ∃ k, j = k + 1 := ⟨j - 1, by omega⟩
              have d0 := cell_later hbq (h4 k (by omega)).1
              have d1 := cell_later hbq (h4 k (by omega)).2
              have hord : ile (atI ss k) (atI ss (k + 1)) := by
                have := of_decide_eq_true (srtd_adj HS.out.1) (k + 1) (by omega) (by omega)
                exact this
              have hord := ile_iff.1 hord
              clear h4 hj0
              generalize atI ss (k + 1) = y at *
              generalize atI ss k = z at *
              have hg0 : decide (((k + 1 : Nat) : Int) > 0) = true := decide_eq_true (by omega)
              have hlt1 : decide (y.1 < z.1) = false := decide_eq_false (by omega)
              by_cases ck : y.1 = z.1
              · have hlt2 : decide (y.2 < z.2) = false := decide_eq_false (by omega)
                rw [← ck] at d0
                have hlt1 : decide (y.1 < y.1) = false := decide_eq_false (by omega)
                have ck' : (y.1 == y.1) = true := by simp
                clear ck hord
                cases ib
                all_goals
                  go_wp2_with fail
                  go_region
                all_goals
                  go_wp2_with fail
                  go_quiet (fail)
                all_goals
                  go_wp2_with fail
                  go_roundw
                  case rel => exact ⟨k + 1 + 1, by omega, by rw [HC.out]; first | rfl | go_num, by go_num, drawn hbq _⟩
                  case measure => simp [intOf]; omega
              · have ck' : (y.1 == z.1) = false := by simpa using ck
                clear ck hord
                cases ib
                all_goals
                  go_wp2_with fail
                  go_region
                all_goals
                  go_wp2_with fail
                  go_quiet (fail)
                all_goals
                  go_wp2_with fail
                  go_roundw
                  case rel => exact ⟨k + 1 + 1, by omega, by rw [HC.out]; first | rfl | go_num, by go_num, drawn hbq _⟩
                  case measure => simp [intOf]; omega
          · obtain rfl : j = ss.length := by omega
            rw [← HQ.out]
            have HB4 : Hid (Below w.heap.size w wr ∧ Its wr (.slice a2 ss.length cap2) ss) := ⟨below_next HB3.out.1 hbq HB3.out.1.size, HB3.out.2.later hbq⟩
            have hll : ((ss.length : Int) == (xs.length : Int)) = true := by rw [HLS.out]; simp
            clear hbq HB3 f3 hcs
            go_wp2_with fail
            refine (sort_any ss _ _ HB4.out.2 (by omega)).mono ?_
            rintro e w5 ⟨v5, rfl, hown5, hb5⟩
            rw [srt_self HS.out.1] at hown5
            have HB5 : Hid (Below w.heap.size w w5 ∧ Its w5 (.slice a2 ss.length cap2) ss ∧ Its w5 v5 ss) := ⟨below_next HB4.out.1 hb5 HB4.out.1.size, HB4.out.2.later hb5, (Its.own hown5).1⟩
            clear hown5 hb5 HB4
            go_wp2_with fail
            refine (same_eq ss v5 _ _ HB5.out.2.2 HB5.out.2.1 (by omega)).mono ?_
            rintro e w6 ⟨rfl, hb6⟩
            have HB6 : Hid (Below w.heap.size w w6) := below_next HB5.out.1 hb6 HB5.out.1.size
            clear hb6 HB5
            go_wp2_with fail
            go_ret
            exact ⟨rfl, HB6.out⟩
end Go.Proofs.Ytpefigaaeiaioaa
