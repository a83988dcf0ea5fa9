/- The statement on what is dropped. -/
import Derived.Test.YtpefigaaeiaioaaK2
namespace Go.Proofs.Ytpefigaaeiaioaa
open Go.RowKit
set_option linter.unusedVariables false

theorem drop_facts {xs : List (Int × Int)} {k : Nat} (hm : mayB xs = true) (hk : k < xs.length) :
    dropL xs (atI xs k).2 = xs.eraseIdx k ∧ decide (0 ≤ fnd (qOf xs) (atI xs k).2) = true ∧ mayB (xs.eraseIdx k) = true ∧ decide (0 ≤ fnd (qOf (xs.eraseIdx k)) (atI xs k).2) = false ∧
      canP (xs.eraseIdx k) (atI xs k) = true ∧ pushL (xs.eraseIdx k) (atI xs k) = xs ∧ ((xs.eraseIdx k).length : Int) = xs.length - 1 := by
  have hf : fnd xs (atI xs k).2 = k := fnd_some hk rfl fun j hj => may_ids hm hk hj
  have hp := erase_perm hk
  have hl : (xs.eraseIdx k).length = xs.length - 1 := by rw [List.length_eraseIdx, if_pos hk]
  have hlen := may_len hm
  have hd : mayB (xs.eraseIdx k) = true := may_iff.2 ⟨by omega, List.Pairwise.sublist (List.eraseIdx_sublist xs k) (may_srtd hm), List.Pairwise.sublist ((List.eraseIdx_sublist xs k).map _) (may_nodup hm)⟩
  have hno : ∀ y ∈ xs.eraseIdx k, y.2 ≠ (atI xs k).2 := by
    have nd := (hp.map (fun z => z.2)).nodup_iff.2 (may_nodup hm)
    rw [List.map_cons, List.nodup_cons] at nd
    intro y hy e
    exact nd.1 (by rw [← e]; exact List.mem_map_of_mem hy)
  have hc : canP (xs.eraseIdx k) (atI xs k) = true := canP_iff.2 ⟨hd, by omega, hno⟩
  refine ⟨?_, ?_, hd, ?_, hc, ?_, by omega⟩
  · unfold dropL; rw [qOf_of hm, hf, if_pos (by omega)]; simp
  · rw [qOf_of hm, hf]; exact decide_eq_true (by omega)
  · rw [qOf_of hd, fnd_none fun j hj => hno _ (atI_mem hj)]; decide
  · unfold pushL; rw [if_pos hc]
    exact (srt_of (may_srtd hm) ((List.perm_append_comm (l₁ := xs.eraseIdx k) (l₂ := [atI xs k])).trans hp).symm).symm

set_option maxHeartbeats 2000000 in
set_option maxRecDepth 100000 in
theorem law_drops (xs : List (Int × Int)) (v : Value) (i : Int) (w : World) (h : Its w v xs) :
    Calls Try.prog 6 #[v, .int .i64 i] w fun e w' => e = .returned (.bool true) ∧ Below w.heap.size w w' := by
  have HI : Hid (Its w v xs) := h
  obtain ⟨a, cap, rfl, h1, h2, h0, h3⟩ := h
  go_enter Try.func6, Try.ntmps6
  go_wp2_with fail
  refine (awake_any _).mono ?_
  rintro e w1 ⟨rfl, hb1⟩
  have HB1 : Hid (Below w.heap.size w w1) := hb1
  clear hb1
  go_wp2_with fail
  refine (may_any xs _ _ (HI.out.later HB1.out)).mono ?_
  rintro e w2 ⟨rfl, hb2⟩
  have HB2 : Hid (Below w.heap.size w w2) := below_next HB1.out hb2 HB1.out.size
  clear hb2 HB1
  generalize hm : mayB xs = m
  have HM : Hid (mayB xs = m) := hm
  clear hm
  cases m
  · go_wp2_with fail
    go_ret
    exact ⟨rfl, HB2.out⟩
  · have hlen := may_len HM.out
    by_cases ci : i < 0
    · have ci' : decide (i < 0) = true := decide_eq_true ci
      go_wp2_with fail
      go_ret
      exact ⟨rfl, HB2.out⟩
    · have ci' : decide (i < 0) = false := decide_eq_false ci
      by_cases cn : i ≥ xs.length
      · have cn' : decide (i ≥ xs.length) = true := decide_eq_true cn
        go_wp2_with fail
        go_ret
        exact ⟨rfl, HB2.out⟩
      · have cn' : decide (i ≥ xs.length) = false := decide_eq_false cn
        obtain ⟨k, rfl⟩ := Int.eq_ofNat_of_zero_le (show 0 ≤ i by omega)
        obtain ⟨b, o, rfl, h4⟩ := h3 (by intro e; subst e; simp at cn)
        have hk : k < xs.length := by omega
        obtain ⟨d0, d1⟩ := h4 k hk
        have d0 := cell_later HB2.out d0
        have d1 := cell_later HB2.out d1
        have FF := drop_facts HM.out hk
        generalize hx : atI xs k = x at *
        obtain ⟨kx, ix⟩ := x
        generalize hd : xs.eraseIdx k = ds at *
        obtain ⟨f1, f2, f3, f4, f5, f6, f7⟩ := FF
        have FF : Hid (dropL xs ix = ds ∧ decide (0 ≤ fnd (qOf xs) ix) = true ∧ mayB ds = true ∧ decide (0 ≤ fnd (qOf ds) ix) = false ∧ canP ds (kx, ix) = true ∧ pushL ds (kx, ix) = xs) := ⟨f1, f2, f3, f4, f5, f6⟩
        have hdl : ds.length ≤ 40 := may_len f3
        clear f1 f2 f3 f4 f5 f6 hx hd h4 h3 h0
        simp only at d0 d1
        go_wp2_with fail
        refine (drop_any xs _ ix _ (HI.out.later HB2.out) (by omega)).mono ?_
        rintro e w3 ⟨v3, rfl, hown3, hb3⟩
        rw [FF.out.2.1]
        rw [FF.out.1] at hown3
        have HI3 : Hid (Its w3 v3 ds) := (Its.own hown3).1
        have HB3 : Hid (Below w.heap.size w w3) := below_next HB2.out hb3 HB2.out.size
        have d0 := cell_later hb3 d0
        have d1 := cell_later hb3 d1
        obtain ⟨a3, cap3, rfl⟩ := HI3.out.form
        clear hown3 hb3 HB2
        go_wp2_with fail
        refine (drop_any ds _ ix _ HI3.out (by omega)).mono ?_
        rintro e w4 ⟨v4, rfl, hown4, hb4⟩
        rw [FF.out.2.2.2.1]
        have HI4 : Hid (Its w4 (.slice a3 ds.length cap3) ds) := HI3.out.later hb4
        have HB4 : Hid (Below w.heap.size w w4) := below_next HB3.out hb4 HB3.out.size
        have d0 := cell_later hb4 d0
        have d1 := cell_later hb4 d1
        clear hown4 hb4 HB3 HI3
        go_wp2_with fail
        refine (push_any ds _ (kx, ix) _ HI4.out (by omega)).mono ?_
        rintro e w5 ⟨v5, rfl, hown5, hb5⟩
        rw [FF.out.2.2.2.2.1]
        rw [FF.out.2.2.2.2.2] at hown5
        have HI5 : Hid (Its w5 v5 xs) := (Its.own hown5).1
        have HD5 : Hid (Its w5 (.slice a3 ds.length cap3) ds) := HI4.out.later hb5
        have HB5 : Hid (Below w.heap.size w w5) := below_next HB4.out hb5 HB4.out.size
        clear hown5 hb5 HB4 HI4 d0 d1
        have f7' : ((ds.length : Int) == (xs.length : Int) - 1) = true := by simpa using f7
        go_wp2_with fail
        refine (may_any ds _ _ HD5.out).mono ?_
        rintro e w6 ⟨rfl, hb6⟩
        rw [FF.out.2.2.1]
        have HI6 : Hid (Its w6 v5 xs) := HI5.out.later hb6
        have HB6 : Hid (Below w.heap.size w w6) := below_next HB5.out hb6 HB5.out.size
        clear hb6 HB5 HI5 HD5
        go_wp2_with fail
        refine (same_eq xs v5 _ _ HI6.out (HI.out.later HB6.out) (by omega)).mono ?_
        rintro e w9 ⟨rfl, hb9⟩
        have HB9 : Hid (Below w.heap.size w w9) := below_next HB6.out hb9 HB6.out.size
        clear hb9 HB6
        go_wp2_with fail
        go_ret
        exact ⟨rfl, HB9.out⟩
end Go.Proofs.Ytpefigaaeiaioaa
