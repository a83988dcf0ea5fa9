/- Walks of chapter 7: what is the same, the document's own least; the document's example. -/
import Derived.Test.YtjiockmphbhljaaDoorX7
import Derived.Test.YtjiockmphbhljaaDoorU6
namespace Go.Proofs.YtjiockmphbhljaaDoor
open Go.RowKit

theorem same_of {xs ys : List Int} (hl : xs.length = ys.length) (h : ∀ i, i < xs.length → xs.getD i 0 = ys.getD i 0) : xs = ys := by
  apply List.ext_getElem hl
  intro i h1 h2
  have := h i h1
  simpa [List.getD, h1, h2] using this

set_option maxHeartbeats 1000000 in
set_option maxRecDepth 100000 in
theorem ints_any (xs ys : List Int) (v v' : Value) (w : World) (h : Nums w v xs) (h' : Nums w v' ys) (hx : xs.length ≤ 100000) :
    Calls Tryd.prog 17 #[v, v'] w fun r w' => r = .returned (.bool (decide (xs = ys))) ∧ Below w.heap.size w w' := by
  obtain ⟨a, cap, rfl, h1, h2, h3⟩ := h
  obtain ⟨a', cap', rfl, h1', h2', h3'⟩ := h'
  by_cases hl : xs.length = ys.length
  · have hl1 : ((xs.length : Int)) = ys.length := by omega
    have HL : Hid (xs.length = ys.length) := hl
    clear hl1
    generalize hy : ys.length = ly at *
    have HY : Hid (ys.length = ly) := hy
    clear hy
    subst hl
    go_enter Tryd.func17, Tryd.ntmps17
    go_wp2_with fail
    go_loopw [5] (fun i wr => ∃ (j : Nat), j ≤ xs.length ∧ i = .int .i64 j ∧ Hid (∀ i, i < j → xs.getD i 0 = ys.getD i 0) ∧ Below w.heap.size w wr) (fun i _ => ((xs.length : Int) - intOf i).toNat)
    case atStart => exact ⟨0, by omega, rfl, (fun i hi => by omega), Below.refl _ _⟩
    case round =>
      obtain ⟨j, hj, rfl, HG, hbw⟩ := hrel
      by_cases hlt : (j : Int) < xs.length
      · obtain ⟨b, o, rfl, h4⟩ := h3 (by intro e; rw [e, List.length_nil] at hlt; omega)
        obtain ⟨b', o', rfl, h4'⟩ := h3' (by intro e; have := HY.out; rw [e, List.length_nil] at this; omega)
        have c0 := cell_later hbw (h4 j (by omega))
        have c1 := cell_later hbw (h4' j (by have := HY.out; omega))
        clear h3 h3' h4 h4'
        obtain ⟨x, hx⟩ : ∃ x, xs.getD j 0 = x := ⟨_, rfl⟩
        obtain ⟨y, hy⟩ : ∃ y, ys.getD j 0 = y := ⟨_, rfl⟩
        have HX : Hid (xs.getD j 0 = x) := hx
        have HZ : Hid (ys.getD j 0 = y) := hy
        rw [hx] at c0
        rw [hy] at c1
        clear hx hy
        by_cases hxy : x = y
        · subst hxy
          have HN : Hid (∀ i, i < j + 1 → xs.getD i 0 = ys.getD i 0) := by
            intro i hi
            rcases Nat.lt_succ_iff_lt_or_eq.1 hi with hi | rfl
            · exact HG.out i hi
            · rw [HX.out, HZ.out]
          go_wp2_with fail
          go_quiet (fail)
          go_wp2_with fail
          go_roundw
          case rel => exact ⟨j + 1, by omega, by go_num, HN.out, ⟨hbw.os, hbw.tape, hbw.output, hbw.size, hbw.block⟩⟩
          case measure => simp [intOf]; omega
        · have H : Hid (decide (xs = ys) = false) := decide_eq_false (fun e => hxy (by rw [← HX.out, ← HZ.out, e]))
          have q1 : (x == y) = false := by simpa using hxy
          go_wp2_with fail
          go_quiet (fail)
          go_wp2
          go_ret
          exact ⟨ret_b H.out.symm, ⟨hbw.os, hbw.tape, hbw.output, hbw.size, hbw.block⟩⟩
      · have hjk : j = xs.length := by omega
        have H : Hid (decide (xs = ys) = true) := decide_eq_true (same_of HY.out.symm (fun i hi => HG.out i (by omega)))
        subst hjk
        go_wp2
        go_ret
        exact ⟨ret_b H.out.symm, hbw⟩
  · have H : Hid (decide (xs = ys) = false) := decide_eq_false (fun e => hl (by rw [e]))
    have hl1 : ¬ ((xs.length : Int)) = ys.length := by omega
    have q1 : ((xs.length : Int) == ys.length) = false := by simpa using hl1
    go_enter Tryd.func17, Tryd.ntmps17
    go_wp2
    go_ret
    exact ⟨ret_b H.out.symm, Below.refl _ _⟩

theorem refLeast7_any (u m e : Int) (w : World) :
    Calls Tryd.prog 18 #[.agg #[.int .i64 u, .int .i64 m, .int .i64 e]] w fun r w' => r = .returned (.int .i64 (lea u m e)) ∧ Below w.heap.size w w' := by
  by_cases h : e = 0
  · have H : Hid (lea u m e = u) := by show _ = _; unfold lea; rw [if_pos h]
    go_enter Tryd.func18, Tryd.ntmps18
    go_wp2
    go_ret
    exact ⟨ret_i H.out.symm, (Below.refl _ _).alloc (Nat.le_refl _) _⟩
  · have H : Hid (lea u m e = m) := by show _ = _; unfold lea; rw [if_neg h]
    go_enter Tryd.func18, Tryd.ntmps18
    go_wp2
    go_ret
    exact ⟨ret_i H.out.symm, (Below.refl _ _).alloc (Nat.le_refl _) _⟩

/-- The chapter's two springs. -/
def exU (_ : Nat) : Int := 100
def exM (_ : Nat) : Int := 50
def exE (i : Nat) : Int := if i = 0 then 1 else 3
theorem sprs_two (w : World) (t : TypeId) : Sprs (w.alloc (.cells #[.int .i64 100, .int .i64 50, .int .i64 1, .int .i64 100, .int .i64 50, .int .i64 3] t)) (.slice (some ⟨w.heap.size, 0, none⟩) 2 2) 2 exU exM exE :=
  ⟨_, 2, rfl, by omega, by decide, fun h => (by cases h), fun _ => ⟨w.heap.size, 0, rfl, fun i hi => by
    match i, hi with
    | 0, _ => simp [exU, exM, exE]
    | 1, _ => simp [exU, exM, exE]⟩⟩
theorem ex_fit : fitS 2 exU exM exE := ⟨by omega, fun i hi => by
  match i, hi with
  | 0, _ => decide
  | 1, _ => decide⟩
theorem ex_frc : Frc 2 exU exM exE 160 10 1 true := by
  refine ⟨roomB_yes ex_fit (by omega) (by omega) (by decide), fun _ => ?_, fun h => by cases h⟩
  have hF : Fin7 2 exU (lo7 exU exM exE) exE 160 (fun _ => true) 40 4 := ⟨by omega, by omega, by omega, by omega, by decide, by decide, by decide, fun c d _ ht => fin_least (S := fun _ => true) (by decide) (by decide) c d ht⟩
  refine hF.isF (g := 4) (by omega) (by omega) (by omega) (fun k hk _ h2 => ?_)
  have := Int.le_of_dvd (by omega) h2
  omega

set_option maxHeartbeats 1000000 in
set_option maxRecDepth 100000 in
theorem awake7_any (w : World) (hL : Lim w) :
    Calls Tryd.prog 8 #[] w fun r w' => r = .returned (.bool true) ∧ Below w.heap.size w w' := by
  have HL : Hid (Lim w) := hL
  clear hL
  have hb0 : ∀ o, Below w.heap.size w (w.alloc o) := fun o => (Below.refl _ _).alloc (Nat.le_refl _) o
  have hS := sprs_two w 33
  have HB : Hid (Below w.heap.size w (w.alloc (.cells #[.int .i64 100, .int .i64 50, .int .i64 1, .int .i64 100, .int .i64 50, .int .i64 3] 33))) := hb0 _
  clear hb0
  go_enter Tryd.func8, Tryd.ntmps8
  go_wp2_with fail
  generalize w.alloc (.cells #[.int .i64 100, .int .i64 50, .int .i64 1, .int .i64 100, .int .i64 50, .int .i64 3] 33) = W at *
  refine (force7_any 2 exU exM exE 160 10 1 true _ _ hS ex_frc (HL.out.later HB.out)).mono ?_
  rintro r w1 ⟨rfl, hb1⟩
  have hS1 := hS.later hb1
  have HB1 : Hid (Below w.heap.size w w1) := HB.out.trans (hb1.mono HB.out.size)
  clear hb1 HB hS
  go_wp2_with fail
  refine (press7_any 2 exU exM exE 160 10 1 true _ _ hS1 ex_frc (HL.out.later HB1.out)).mono ?_
  rintro r w2 ⟨x, rfl, hown, hb2⟩
  have hS2 := hS1.later hb2
  have hN2 := (Nums.own hown).1
  rw [show prs7 2 exU exM exE 10 1 true = [90, 70] by decide] at hN2
  have HB2 : Hid (Below w.heap.size w w2) := HB1.out.trans (hb2.mono HB1.out.size)
  clear hb2 HB1 hS1 hown
  go_wp2_with fail
  refine (may7_any 2 exU exM exE _ _ hS2).mono ?_
  rintro r w3 ⟨rfl, hb3⟩
  rw [sprB_yes ex_fit]
  have hS3 := hS2.later hb3
  have hN3 := hN2.later hb3
  have HB3 : Hid (Below w.heap.size w w3) := HB2.out.trans (hb3.mono HB2.out.size)
  clear hb3 HB2 hS2 hN2
  go_wp2_with fail
  refine (room7_any 2 exU exM exE 100 _ _ hS3 (HL.out.later HB3.out)).mono ?_
  rintro r w4 ⟨rfl, hb4⟩
  rw [show roomB 2 exU exM exE 100 = true by decide]
  have hS4 := hS3.later hb4
  have hN4 := hN3.later hb4
  have HB4 : Hid (Below w.heap.size w w4) := HB3.out.trans (hb4.mono HB3.out.size)
  clear hb4 HB3 hS3 hN3
  go_wp2_with fail
  refine (room7_any 2 exU exM exE 99 _ _ hS4 (HL.out.later HB4.out)).mono ?_
  rintro r w5 ⟨rfl, hb5⟩
  rw [show roomB 2 exU exM exE 99 = false by decide]
  have hN5 := hN4.later hb5
  have HB5 : Hid (Below w.heap.size w w5) := HB4.out.trans (hb5.mono HB4.out.size)
  clear hb5 HB4 hS4 hN4
  go_wp2_with fail
  have hb6 : Below w5.heap.size w5 (w5.alloc (.cells #[.int .i64 90, .int .i64 70] 3)) := (Below.refl _ _).alloc (Nat.le_refl _) _
  refine (ints_any [90, 70] [90, 70] _ _ _ (hN5.later hb6) (nums_two w5 90 70) (by decide)).mono ?_
  rintro r w6 ⟨rfl, hb7⟩
  have HB6 : Hid (Below w.heap.size w w6) := (HB5.out.trans (hb6.mono HB5.out.size)).trans (hb7.mono (Nat.le_trans HB5.out.size hb6.size))
  rw [show decide (([90, 70] : List Int) = [90, 70]) = true by decide]
  clear hb6 hb7 hN5
  go_wp2
  go_ret
  exact ⟨rfl, HB6.out⟩
end Go.Proofs.YtjiockmphbhljaaDoor
