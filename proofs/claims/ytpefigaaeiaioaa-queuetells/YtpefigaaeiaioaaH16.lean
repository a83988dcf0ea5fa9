/- Walks: Push. -/
import Derived.Test.YtpefigaaeiaioaaH15
namespace Go.Proofs.Ytpefigaaeiaioaa
open Go.RowKit
set_option linter.unusedVariables false

/-- Whether an item can be pushed. -/
def canP (xs : List (Int × Int)) (x : Int × Int) : Bool := mayB xs && decide (xs.length ≠ 40) && decide (fnd xs x.2 < 0)
/-- A list, an item pushed. -/
def pushL (xs : List (Int × Int)) (x : Int × Int) : List (Int × Int) := if canP xs x = true then srt (xs ++ [x]) else xs

theorem hpush_at (B p cap : Nat) (a : Option Addr) (xs : List (Int × Int)) (x : Int × Int) (w : World) (h : Hp B w p a cap xs) (hx : xs.length ≤ 900) (hh : heapN xs xs.length) (hB : B ≤ w.heap.size) :
    Calls Try.prog 27 #[.iface 43 (.pointer (some ⟨p, 0, none⟩)), .iface 24 (.agg #[.int .i64 x.1, .int .i64 x.2])] w (PushE B p xs x w) := hpush_any B p cap a xs x w h hx hh hB

set_option maxHeartbeats 2000000 in
set_option maxRecDepth 100000 in
theorem push_any (xs : List (Int × Int)) (v : Value) (x : Int × Int) (w : World) (h : Its w v xs) (hx : xs.length ≤ 900) :
    Calls Try.prog 11 #[v, itV x] w (OwnB (pushL xs x) (canP xs x) w) := by
  have b0 : Below w.heap.size w (w.alloc (.cells #[.int .i64 x.1, .int .i64 x.2] 24)) := (Below.refl _ _).alloc (Nat.le_refl _) _
  have HI : Hid (Its w v xs) := h
  obtain ⟨a0, cap0, rfl, g1, g2, _, _⟩ := h
  have hclone : ∀ W, Below w.heap.size w W → Calls Try.prog 25 #[.slice a0 xs.length cap0] W (OwnE W.heap.size xs W) := fun W hW => clone_any xs _ W (HI.out.later hW) (by omega)
  unfold itV
  go_enter Try.func11, Try.ntmps11
  go_wp2_with fail
  refine (may_any xs _ _ (HI.out.later b0)).mono ?_
  rintro e w1 ⟨rfl, hb1⟩
  have hB1 : Below w.heap.size w w1 := below_next b0 hb1 (by simp)
  have c1 := cell_later (p := ⟨w.heap.size, 1, none⟩) hb1 (by simp; rfl)
  have c0 := cell_later (p := ⟨w.heap.size, 0, none⟩) hb1 (by simp; rfl)
  have hs1 := hB1.size
  have HB1 : Hid (Below w.heap.size w w1) := hB1
  clear hb1 hB1 b0
  generalize hm : mayB xs = m
  have HM : Hid (mayB xs = m) := hm
  clear hm
  cases m
  · have HE : Hid (pushL xs x = xs ∧ canP xs x = false) := by
      have : canP xs x = false := by unfold canP; rw [HM.out]; rfl
      exact ⟨by unfold pushL; rw [this]; rfl, this⟩
    go_wp2_with fail
    refine (hclone _ HB1.out).mono ?_
    rintro e w4 ⟨u, rfl, hown, hb4⟩
    have HO : Hid (w4.ownsRow w.heap.size 24 2 u xs.length (flat xs) ∧ Below w.heap.size w w4) := ⟨World.ownsRow.lower hown hs1, below_next HB1.out hb4 hs1⟩
    clear hown hb4
    go_wp2_with fail
    go_ret2
    exact ⟨u, by rw [HE.out.2]; rfl, by rw [HE.out.1]; exact HO.out.1, HO.out.2⟩
  · by_cases c40 : (xs.length : Int) = 40
    · have HE : Hid (pushL xs x = xs ∧ canP xs x = false) := by
        have : canP xs x = false := by unfold canP; rw [HM.out, decide_eq_false (show ¬ (xs.length ≠ 40) by omega)]; rfl
        exact ⟨by unfold pushL; rw [this]; rfl, this⟩
      go_wp2_with fail
      refine (hclone _ HB1.out).mono ?_
      rintro e w4 ⟨u, rfl, hown, hb4⟩
      have HO : Hid (w4.ownsRow w.heap.size 24 2 u xs.length (flat xs) ∧ Below w.heap.size w w4) := ⟨World.ownsRow.lower hown hs1, below_next HB1.out hb4 hs1⟩
      clear hown hb4
      go_wp2_with fail
      go_ret2
      exact ⟨u, by rw [HE.out.2]; rfl, by rw [HE.out.1]; exact HO.out.1, HO.out.2⟩
    · have c40' : ((xs.length : Int) == 40) = false := by simpa using c40
      go_wp2_with fail
      refine (find_any xs _ x.2 w1 (HI.out.later HB1.out) (by omega)).mono ?_
      rintro e w2 ⟨rfl, hb2⟩
      have c0 := cell_later hb2 c0
      have c1 := cell_later hb2 c1
      have HB2 : Hid (Below w.heap.size w w2) := below_next HB1.out hb2 hs1
      have hs2 := HB2.out.size
      clear hb2 HB1
      generalize hf : fnd xs x.2 = f
      have HF : Hid (fnd xs x.2 = f) := hf
      clear hf
      by_cases cf : 0 ≤ f
      · have HE : Hid (pushL xs x = xs ∧ canP xs x = false) := by
          have : canP xs x = false := by unfold canP; rw [HF.out, decide_eq_false (show ¬ (f < 0) by omega)]; simp
          exact ⟨by unfold pushL; rw [this]; rfl, this⟩
        go_wp2_with fail
        refine (hclone _ HB2.out).mono ?_
        rintro e w4 ⟨u, rfl, hown, hb4⟩
        have HO : Hid (w4.ownsRow w.heap.size 24 2 u xs.length (flat xs) ∧ Below w.heap.size w w4) := ⟨World.ownsRow.lower hown hs2, below_next HB2.out hb4 hs2⟩
        clear hown hb4
        go_wp2_with fail
        go_ret2
        exact ⟨u, by rw [HE.out.2]; rfl, by rw [HE.out.1]; exact HO.out.1, HO.out.2⟩
      · have HE : Hid (pushL xs x = srt (xs ++ [x]) ∧ canP xs x = true) := by
          have : canP xs x = true := by unfold canP; rw [HM.out, HF.out, decide_eq_true (show xs.length ≠ 40 by omega), decide_eq_true (show f < 0 by omega)]; rfl
          exact ⟨by unfold pushL; rw [if_pos this], this⟩
        go_wp2_with fail
        refine (heapOf_any xs _ w2 (HI.out.later HB2.out) hx).mono ?_
        rintro e w3 ⟨p, a, cap, ys, rfl, hp, hper, hh, hb3⟩
        have c0 := cell_later hb3 c0
        have c1 := cell_later hb3 c1
        have hyl : ys.length ≤ 900 := by rw [hper.length_eq]; exact hx
        have hs3 := hb3.size
        have HP : Hid (Hp w2.heap.size w3 p a cap ys ∧ ys.Perm xs ∧ heapN ys ys.length ∧ Below w.heap.size w w3) := ⟨hp, hper, hh, below_next HB2.out hb3 hs2⟩
        clear hp hper hh hb3 HB2
        go_wp2_with fail
        refine (hpush_at w2.heap.size p cap a ys x w3 HP.out.1 hyl HP.out.2.2.1 hs3).mono ?_
        rintro e w4 ⟨a4, cap4, zs, rfl, hp4, hper4, hh4, hb4⟩
        have hc4 := hp4.cell
        have hzl : zs.length ≤ 901 := by rw [hper4.length_eq]; simp; omega
        have hs4 := hb4.size
        have H4 : Hid (Hp w2.heap.size w4 p a4 cap4 zs ∧ heapN zs zs.length ∧ srt zs = srt (xs ++ [x]) ∧ zs.length = xs.length + 1 ∧ Below w.heap.size w w4) :=
          ⟨hp4, hh4, srt_congr (hper4.trans (HP.out.2.1.append_right [x])), by rw [hper4.length_eq, List.length_append, HP.out.2.1.length_eq]; rfl, HP.out.2.2.2.trans (hb4.mono hs2)⟩
        clear hp4 hper4 hh4 hb4 HP c0 c1
        go_wp2_with fail
        refine (len_any _ _ _ _).mono ?_
        rintro e w5 ⟨rfl, hw⟩
        obtain rfl := hw.symm
        go_wp2_with fail
        refine (drain_any _ p cap4 a4 zs _ H4.out.1 (by omega) H4.out.2.1).mono ?_
        rintro e w6 ⟨u, rfl, hown, hk6⟩
        have HO : Hid (w6.ownsRow w.heap.size 24 2 u (pushL xs x).length (flat (pushL xs x)) ∧ Below w.heap.size w w6) := by
          obtain ⟨z1, z2, z3, z4, z5⟩ := H4.out
          refine ⟨?_, z5.trans ((hk6.below z1 (by omega)).mono hs2)⟩
          rw [HE.out.1, ← z3, srt_len]; exact World.ownsRow.lower hown (by omega)
        clear hown hk6 H4
        go_wp2_with fail
        go_ret2
        exact ⟨u, by rw [HE.out.2]; rfl, HO.out.1, HO.out.2⟩
end Go.Proofs.Ytpefigaaeiaioaa
