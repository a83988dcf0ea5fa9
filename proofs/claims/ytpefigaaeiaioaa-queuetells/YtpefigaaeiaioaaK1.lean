/- The statement on the least item. -/
import Derived.Test.YtpefigaaeiaioaaH17
import Derived.BigQuiet
import Derived.Deep.QuietTactic
namespace Go.Proofs.Ytpefigaaeiaioaa
open Go.RowKit
set_option linter.unusedVariables false

theorem drawn {B : Nat} {w w' : World} (h : Below B w w') (n : Nat) : Below B w (w'.drewN n) := ⟨h.os, h.tape, h.output, h.size, h.block⟩
theorem head_ile {xs : List (Int × Int)} (h : srtd xs) {k : Nat} (hk : k < xs.length) : ile (atI xs 0) (atI xs k) := by
  cases xs with
  | nil => simp at hk
  | cons x xs =>
    rcases List.mem_cons.1 (atI_mem hk) with e | hm
    · rw [e]; exact ile_refl _
    · exact (List.pairwise_cons.1 h).1 _ hm

set_option maxHeartbeats 1000000 in
set_option maxRecDepth 100000 in
theorem law_least (xs : List (Int × Int)) (v : Value) (i : Int) (w : World) (h : Its w v xs) :
    Calls Try.prog 9 #[v, .int .i64 i] w fun e w' => e = .returned (.bool true) ∧ Below w.heap.size w w' := by
  have HI : Hid (Its w v xs) := h
  obtain ⟨a, cap, rfl, h1, h2, h0, h3⟩ := h
  go_enter Try.func9, Try.ntmps9
  go_wp2_with fail
  refine (awake_any w).mono ?_
  rintro e w1 ⟨rfl, hb1⟩
  have s1 := hb1.size
  go_wp2_with fail
  refine (min_any xs _ w1 (HI.out.later hb1)).mono ?_
  rintro e w2 ⟨rfl, hb2⟩
  have hB2 : Below w.heap.size w w2 := below_next hb1 hb2 s1
  have s2 := hB2.size
  generalize hm : mayB xs = m
  have HM : Hid (mayB xs = m) := hm
  have hB3 := hB2.alloc s2 (.cells #[.int .i64 (atI (qOf xs) 0).1, .int .i64 (atI (qOf xs) 0).2] 24)
  have HB3 : Hid (Below w.heap.size w (w2.alloc (.cells #[.int .i64 (atI (qOf xs) 0).1, .int .i64 (atI (qOf xs) 0).2] 24))) := hB3
  clear hm hb1 hb2 hB2 hB3
  cases m
  · have hq : qOf xs = [] := by unfold qOf; rw [HM.out]; rfl
    rw [hq]
    rw [hq] at HB3
    rw [show atI [] 0 = (0, 0) from rfl, show decide (0 < ([] : List (Int × Int)).length) = false from rfl]
    rw [show atI [] 0 = (0, 0) from rfl] at HB3
    clear hq
    unfold itV
    go_wp2_with fail
    refine (may_any xs _ _ (HI.out.later HB3.out)).mono ?_
    rintro e w4 ⟨rfl, hb4⟩
    rw [HM.out]
    have HB4 : Hid (Below w.heap.size w w4) := below_next HB3.out hb4 (by simp; omega)
    clear hb4
    go_wp2_with fail
    refine (may_any xs _ _ (HI.out.later HB4.out)).mono ?_
    rintro e w5 ⟨rfl, hb5⟩
    rw [HM.out]
    have HB5 : Hid (Below w.heap.size w w5) := below_next HB4.out hb5 HB4.out.size
    clear hb5
    go_wp2_with fail
    go_ret
    exact ⟨rfl, HB5.out⟩
  · have hq : qOf xs = xs := by unfold qOf; rw [HM.out]; rfl
    rw [hq]
    rw [hq] at HB3
    have hlen := may_len HM.out
    have hsr := may_srtd HM.out
    have HS : Hid (srtd xs) := hsr
    clear hq hsr
    obtain ⟨bl, hbl⟩ : ∃ bl, decide (0 < xs.length) = bl := ⟨_, rfl⟩
    rw [hbl]
    have HL : Hid (decide (0 < xs.length) = bl) := hbl
    have hgt : decide ((xs.length : Int) > 0) = bl := by rw [← hbl]; exact decide_eq_decide.2 (by omega)
    clear hbl
    unfold itV
    go_wp2_with fail
    refine (may_any xs _ _ (HI.out.later HB3.out)).mono ?_
    rintro e w4 ⟨rfl, hb4⟩
    rw [HM.out]
    have c0 := cell_later (p := ⟨w2.heap.size, 0, none⟩) hb4 (by simp; rfl)
    have c1 := cell_later (p := ⟨w2.heap.size, 1, none⟩) hb4 (by simp; rfl)
    have HB4 : Hid (Below w.heap.size w w4) := below_next HB3.out hb4 (by simp; omega)
    clear hb4 HB3
    by_cases ci : i < 0
    · have ci' : decide (i < 0) = true := decide_eq_true ci
      go_wp2_with fail
      refine (may_any xs _ _ (HI.out.later HB4.out)).mono ?_
      rintro e w5 ⟨rfl, hb5⟩
      rw [HM.out]
      have HB5 : Hid (Below w.heap.size w w5) := below_next HB4.out hb5 HB4.out.size
      clear hb5
      go_wp2_with fail
      all_goals
        go_ret
        exact ⟨ret_b (by rw [HL.out]; simp), HB5.out⟩
    · have ci' : decide (i < 0) = false := decide_eq_false ci
      by_cases cn : i ≥ xs.length
      · have cn' : decide (i ≥ xs.length) = true := decide_eq_true cn
        go_wp2_with fail
        refine (may_any xs _ _ (HI.out.later HB4.out)).mono ?_
        rintro e w5 ⟨rfl, hb5⟩
        rw [HM.out]
        have HB5 : Hid (Below w.heap.size w w5) := below_next HB4.out hb5 HB4.out.size
        clear hb5
        go_wp2_with fail
        all_goals
          go_ret
          exact ⟨ret_b (by rw [HL.out]; simp), HB5.out⟩
      · have cn' : decide (i ≥ xs.length) = false := decide_eq_false cn
        obtain ⟨k, rfl⟩ := Int.eq_ofNat_of_zero_le (show 0 ≤ i by omega)
        obtain ⟨b, o, rfl, h4⟩ := h3 (by intro e; subst e; simp at cn)
        have hk : k < xs.length := by omega
        obtain ⟨d0, d1⟩ := h4 k hk
        have d0 := cell_later HB4.out d0
        have d1 := cell_later HB4.out d1
        obtain rfl : bl = true := by rw [← HL.out]; exact decide_eq_true (by omega)
        have hle := ile_iff.1 (head_ile HS.out hk)
        clear h4 h3 h0 hgt
        generalize atI xs 0 = x at *
        generalize atI xs k = y at *
        by_cases cx : x.1 < y.1
        · have cx' : decide (x.1 < y.1) = true := decide_eq_true cx
          go_wp2_with fail
          go_quiet (fail)
          all_goals
            go_wp2_with fail
            go_ret
            exact ⟨rfl, drawn HB4.out _⟩
        · have cx' : decide (x.1 < y.1) = false := decide_eq_false cx
          have ce : (x.1 == y.1) = true := by simp; omega
          have cl : decide (x.2 ≤ y.2) = true := decide_eq_true (by omega)
          go_wp2_with fail
          go_quiet (fail)
          all_goals
            go_wp2_with fail
            go_ret
            exact ⟨rfl, drawn HB4.out _⟩
end Go.Proofs.Ytpefigaaeiaioaa
