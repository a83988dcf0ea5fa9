/- Walks of the document's own: Push, Min, Pop, Drop. -/
import Derived.Test.YtpefigaaeiaioaaG2
import Derived.Test.YtpefigaaeiaioaaK3
import Derived.Deep.RegionLaw
namespace Go.Proofs.Ytpefigaaeiaioaa
open Go.RowKit
set_option linter.unusedVariables false

/-- A list that is read, and whether it is another one. -/
def ItsB (xs : List (Int × Int)) (b : Bool) (w : World) (e : Ending) (w' : World) : Prop :=
  ∃ v, e = .returned (.tuple #[v, .bool b]) ∧ Its w' v xs ∧ Below w.heap.size w w'

set_option maxHeartbeats 1000000 in
set_option maxRecDepth 100000 in
theorem rpush_any (xs : List (Int × Int)) (v : Value) (kx ix : Int) (w : World) (h : Its w v xs) (hx : xs.length ≤ 900) :
    Calls Try.prog 12 #[v, .agg #[.int .i64 kx, .int .i64 ix]] w (ItsB (pushL xs (kx, ix)) (canP xs (kx, ix)) w) := by
  have b0 : Below w.heap.size w (w.alloc (.cells #[.int .i64 kx, .int .i64 ix] 24)) := (Below.refl _ _).alloc (Nat.le_refl _) _
  have HI : Hid (Its w v xs) := h
  obtain ⟨a0, cap0, rfl, g1, g2, _, _⟩ := h
  go_enter Try.func12, Try.ntmps12
  go_wp2_with fail
  refine (rmay_any xs _ _ (HI.out.later b0) (by omega)).mono ?_
  rintro e w1 ⟨rfl, hb1⟩
  have c1 := cell_later (p := ⟨w.heap.size, 1, none⟩) hb1 (by simp; rfl)
  have c0 := cell_later (p := ⟨w.heap.size, 0, none⟩) hb1 (by simp; rfl)
  have HB1 : Hid (Below w.heap.size w w1) := below_next b0 hb1 (by simp)
  clear hb1 b0
  generalize hm : mayB xs = m
  have HM : Hid (mayB xs = m) := hm
  clear hm
  cases m
  · have HE : Hid (pushL xs (kx, ix) = xs ∧ canP xs (kx, ix) = false) := by
      have : canP xs (kx, ix) = false := by unfold canP; rw [HM.out]; rfl
      exact ⟨by unfold pushL; rw [this]; rfl, this⟩
    go_wp2_with fail
    go_ret2
    exact ⟨_, by rw [HE.out.2]; rfl, by rw [HE.out.1]; exact HI.out.later HB1.out, HB1.out⟩
  · have hlm := may_len HM.out
    by_cases c40 : (xs.length : Int) ≥ 40
    · have HE : Hid (pushL xs (kx, ix) = xs ∧ canP xs (kx, ix) = false) := by
        have : canP xs (kx, ix) = false := by unfold canP; rw [HM.out, decide_eq_false (show ¬ (xs.length ≠ 40) by omega)]; rfl
        exact ⟨by unfold pushL; rw [this]; rfl, this⟩
      have c40' : decide ((xs.length : Int) ≥ 40) = true := decide_eq_true c40
      go_wp2_with fail
      go_ret2
      exact ⟨_, by rw [HE.out.2]; rfl, by rw [HE.out.1]; exact HI.out.later HB1.out, HB1.out⟩
    · have c40' : decide ((xs.length : Int) ≥ 40) = false := decide_eq_false c40
      go_wp2_with fail
      refine (rat_any xs _ ix w1 (HI.out.later HB1.out) (by omega)).mono ?_
      rintro e w2 ⟨rfl, hb2⟩
      have c0 := cell_later hb2 c0
      have c1 := cell_later hb2 c1
      have HB2 : Hid (Below w.heap.size w w2) := below_next HB1.out hb2 HB1.out.size
      clear hb2 HB1
      generalize hf : fnd xs ix = f
      have HF : Hid (fnd xs ix = f) := hf
      clear hf
      by_cases cf : 0 ≤ f
      · have HE : Hid (pushL xs (kx, ix) = xs ∧ canP xs (kx, ix) = false) := by
          have : canP xs (kx, ix) = false := by unfold canP; rw [HF.out, decide_eq_false (show ¬ (f < 0) by omega)]; simp
          exact ⟨by unfold pushL; rw [this]; rfl, this⟩
        go_wp2_with fail
        go_ret2
        exact ⟨_, by rw [HE.out.2]; rfl, by rw [HE.out.1]; exact HI.out.later HB2.out, HB2.out⟩
      · have HE : Hid (pushL xs (kx, ix) = srt (xs ++ [(kx, ix)]) ∧ canP xs (kx, ix) = true) := by
          have : canP xs (kx, ix) = true := by unfold canP; rw [HM.out, HF.out, decide_eq_true (show xs.length ≠ 40 by omega), decide_eq_true (show f < 0 by omega)]; rfl
          exact ⟨by unfold pushL; rw [if_pos this], this⟩
        go_wp2_with fail
        refine (put_any xs _ kx ix w2 (HI.out.later HB2.out) (by omega) (may_srtd HM.out)).mono ?_
        rintro e w3 ⟨v3, rfl, hown3, hb3⟩
        have H3 : Hid (Its w3 v3 (srt (xs ++ [(kx, ix)])) ∧ Below w.heap.size w w3) := ⟨(Its.own hown3).1, below_next HB2.out hb3 HB2.out.size⟩
        clear hown3 hb3
        go_wp2_with fail
        go_ret2
        exact ⟨_, by rw [HE.out.2]; rfl, by rw [HE.out.1]; exact H3.out.1, H3.out.2⟩

set_option maxHeartbeats 1000000 in
set_option maxRecDepth 100000 in
theorem rmin_any (xs : List (Int × Int)) (v : Value) (w : World) (h : Its w v xs) (hx : xs.length ≤ 900) :
    Calls Try.prog 18 #[v] w fun e w' => e = .returned (.tuple #[itV (atI (qOf xs) 0), .bool (decide (0 < (qOf xs).length))]) ∧ Below w.heap.size w w' := by
  have b0 : Below w.heap.size w (w.alloc (.cells #[.int .i64 0, .int .i64 0] 24)) := (Below.refl _ _).alloc (Nat.le_refl _) _
  have HI : Hid (Its w v xs) := h
  obtain ⟨a0, cap0, rfl, g1, g2, _, g3⟩ := h
  go_enter Try.func18, Try.ntmps18
  go_wp2_with fail
  refine (rmay_any xs _ _ (HI.out.later b0) (by omega)).mono ?_
  rintro e w1 ⟨rfl, hb1⟩
  obtain ⟨r0, r1, r2, r3⟩ := (Res.new w).later hb1
  have HB1 : Hid (Below w.heap.size w w1) := below_next b0 hb1 (by simp)
  clear hb1 b0
  generalize hm : mayB xs = m
  have HM : Hid (mayB xs = m) := hm
  clear hm
  cases m
  · have HQ : Hid (qOf xs = []) := by show _ = _; unfold qOf; rw [HM.out]; rfl
    go_wp2_with fail
    refine bodyPost_ret (v := .tuple #[itV (0, 0), .bool false]) ?_ rfl ⟨by rw [HQ.out]; rfl, ?_⟩
    · simp [results, Try.results18, go_sem, itV, r0, r1]
    · exact (HB1.out.setCell (Nat.le_refl _) _).setCell (Nat.le_refl _) _
  · have HQ : Hid (qOf xs = xs) := qOf_of HM.out
    by_cases hne : xs = []
    · subst hne
      simp only [List.length_nil] at *
      go_wp2_with fail
      refine bodyPost_ret (v := .tuple #[itV (0, 0), .bool false]) ?_ rfl ⟨by rw [HQ.out]; rfl, ?_⟩
      · simp [results, Try.results18, go_sem, itV, r0, r1]
      · exact (HB1.out.setCell (Nat.le_refl _) _).setCell (Nat.le_refl _) _
    · obtain ⟨b, o, rfl, h4⟩ := g3 hne
      have hl : 0 < xs.length := List.length_pos_iff.2 hne
      have hl' : (0 : Int) < xs.length := by omega
      have d0 := cell_later HB1.out (h4 0 hl).1
      have d1 := cell_later HB1.out (h4 0 hl).2
      simp only [Nat.zero_mul, Nat.add_zero] at d0 d1
      clear h4 g3
      have HX : Hid (decide (0 < xs.length) = true) := decide_eq_true hl
      go_wp2_with fail
      refine bodyPost_ret (v := .tuple #[itV (atI xs 0), .bool true]) ?_ rfl ⟨by rw [HQ.out, HX.out], ?_⟩
      · simp [results, Try.results18, go_sem, itV, r0, r1]
      · exact (HB1.out.setCell (Nat.le_refl _) _).setCell (Nat.le_refl _) _
end Go.Proofs.Ytpefigaaeiaioaa
