/- Walks of chapter 7: what is the same, the document's own least; the document's example. -/
import Derived.Test.YtociniaaeflokaaX4
import Derived.Maps.RangeWalk
import Derived.Maps.Views
import Derived.BigQuiet
import Derived.Test.YtociniaaeflokaaU6
namespace Go.Proofs.Ytociniaaeflokaa
open Go.RowKit

theorem same_of {xs ys : List Int} (hl : xs.length = ys.length) (h : ∀ i, i < xs.length → xs.getD i 0 = ys.getD i 0) : xs = ys := by
  apply List.ext_getElem hl
  intro i h1 h2
  have := h i h1
  simpa [List.getD, h1, h2] using this

set_option maxHeartbeats 1000000 in
set_option maxRecDepth 100000 in
theorem ints_any (xs ys : List Int) (v v' : Value) (w : World) (h : Nums w v xs) (h' : Nums w v' ys) (hx : xs.length ≤ 100000) :
    Calls Try.prog 11 #[v, v'] w fun r w' => r = .returned (.bool (decide (xs = ys))) ∧ Below w.heap.size w w' := by
  obtain ⟨a, cap, rfl, h1, h2, h3⟩ := h
  obtain ⟨a', cap', rfl, h1', h2', h3'⟩ := h'
  by_cases hl : xs.length = ys.length
  · have hl1 : ((xs.length : Int)) = ys.length := by omega
    have HL : Hid (xs.length = ys.length) := hl
    clear hl1
    generalize hy : ys.length = ly at *
    have HY : Hid (ys.length = ly) := hy
    clear hy
    subst hl
    go_enter Try.func11, Try.ntmps11
    go_wp2_with fail
    go_loopw [5] (fun i wr => ∃ (j : Nat), j ≤ xs.length ∧ i = .int .i64 j ∧ Hid (∀ i, i < j → xs.getD i 0 = ys.getD i 0) ∧ Below w.heap.size w wr) (fun i _ => ((xs.length : Int) - intOf i).toNat)
    case atStart => exact ⟨0, by omega, rfl, (fun i hi => by omega), Below.refl _ _⟩
    case round =>
      obtain ⟨j, hj, rfl, HG, hbw⟩ := hrel
      by_cases hlt : (j : Int) < xs.length
      · obtain ⟨b, o, rfl, h4⟩ := h3 (by intro e; rw [e, List.length_nil] at hlt; omega)
        obtain ⟨b', o', rfl, h4'⟩ := h3' (by intro e; have := HY.out; rw [e, List.length_nil] at this; omega)
        have c0 := cell_later hbw (h4 j (by omega))
        have c1 := cell_later hbw (h4' j (by have := HY.out; omega))
        clear h3 h3' h4 h4'
        obtain ⟨x, hx⟩ : ∃ x, xs.getD j 0 = x := ⟨_, rfl⟩
        obtain ⟨y, hy⟩ : ∃ y, ys.getD j 0 = y := ⟨_, rfl⟩
        have HX : Hid (xs.getD j 0 = x) := hx
        have HZ : Hid (ys.getD j 0 = y) := hy
        rw [hx] at c0
        rw [hy] at c1
        clear hx hy
        by_cases hxy : x = y
        · subst hxy
          have HN : Hid (∀ i, i < j + 1 → xs.getD i 0 = ys.getD i 0) := by
            intro i hi
            rcases Nat.lt_succ_iff_lt_or_eq.1 hi with hi | rfl
            · exact HG.out i hi
            · rw [HX.out, HZ.out]
          go_wp2_with fail
          go_quiet (fail)
          go_wp2_with fail
          go_roundw
          case rel => exact ⟨j + 1, by omega, by go_num, HN.out, ⟨hbw.os, hbw.tape, hbw.output, hbw.size, hbw.block⟩⟩
          case measure => simp [intOf]; omega
        · have H : Hid (decide (xs = ys) = false) := decide_eq_false (fun e => hxy (by rw [← HX.out, ← HZ.out, e]))
          have q1 : (x == y) = false := by simpa using hxy
          go_wp2_with fail
          go_quiet (fail)
          go_wp2
          go_ret
          exact ⟨ret_b H.out.symm, ⟨hbw.os, hbw.tape, hbw.output, hbw.size, hbw.block⟩⟩
      · have hjk : j = xs.length := by omega
        have H : Hid (decide (xs = ys) = true) := decide_eq_true (same_of HY.out.symm (fun i hi => HG.out i (by omega)))
        subst hjk
        go_wp2
        go_ret
        exact ⟨ret_b H.out.symm, hbw⟩
  · have H : Hid (decide (xs = ys) = false) := decide_eq_false (fun e => hl (by rw [e]))
    have hl1 : ¬ ((xs.length : Int)) = ys.length := by omega
    have q1 : ((xs.length : Int) == ys.length) = false := by simpa using hl1
    go_enter Try.func11, Try.ntmps11
    go_wp2
    go_ret
    exact ⟨ret_b H.out.symm, Below.refl _ _⟩
end Go.Proofs.Ytociniaaeflokaa
