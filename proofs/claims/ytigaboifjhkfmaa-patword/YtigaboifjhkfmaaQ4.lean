/- The walk of the statement PatWord: it returns true, and writes nothing that was there. -/
import Derived.Test.YtigaboifjhkfmaaA4
import Derived.Test.YtigaboifjhkfmaaQ2
import Derived.Deep.RegionWith
namespace Go.Proofs.Ytigaboifjhkfmaa
open Go.RowKit

theorem cell_after {B : Nat} {w w' : World} {p : Addr} {v : Value} (h : Below B w w') (hp : p.block < B) (hc : w.cell? p = some v) : w'.cell? p = some v := (h.cell hp).trans hc

/-- A row of bools that is the call's own, and is not empty. -/
theorem own_open {w : World} {base : Nat} {v : Value} {n : Nat} {xs : List Value} (h : w.ownsRow base 4 1 v n xs) (hn : 0 < n) :
    ∃ g cap, v = .slice (some ⟨g, 0, none⟩) n cap ∧ base ≤ g ∧ g < w.heap.size ∧ ∀ j u, xs[j]? = some u → w.cell? ⟨g, j, none⟩ = some u := by
  have hl := h.lt
  have hcs := fun g hg => h.cells (g := g) hg
  obtain ⟨_, ⟨rfl, hz⟩ | ⟨g, cap, cur, rfl, hb, hh, _⟩⟩ := h
  · omega
  · refine ⟨g, cap, rfl, hb, (hl g rfl).2, fun j u hj => ?_⟩
    have := hcs g rfl j u hj
    cases j with
    | zero => simpa [Addr.add] using this
    | succ j => simpa [Addr.add] using this

theorem wordV_at {m k : Int} {n j : Nat} (h : j < n) : (wordV m k n)[j]? = some (.bool (adB m k j)) := by
  unfold wordV
  rw [List.getElem?_map, List.getElem?_range h]
  rfl

set_option maxHeartbeats 1000000 in
set_option maxRecDepth 100000 in
theorem law_word_in (m : Int) (k : Nat) (n : Int) (w : World) (m0 : 1 ≤ m) (mk : m ≤ k) (k6 : (k : Int) ≤ 6) :
    Calls Try.prog 8 #[.int .i64 m, .int .i64 k, .int .i64 n] w fun e w' => e = .returned (.bool true) ∧ Below w.heap.size w w' := by
  have H1 : Hid (mayB m k = true) := mayB_mk m0 mk k6
  have HT : Hid (du m k k = m) := by show _ = _; have := du_turn (n := 0) m0 mk k6; rw [du_zero] at this; simpa using this
  have HZ : Hid (du m k 0 = 0) := du_zero m k
  go_enter Try.func8, Try.ntmps8
  go_wp2_with fail
  refine (awake2_any _).mono ?_
  rintro e w1 ⟨rfl, hb1⟩
  go_wp2_with fail
  refine (word_in _ _ _ m0 mk k6).mono ?_
  rintro e w2 ⟨v, rfl, hown, hb2⟩
  obtain ⟨g, cap, rfl, g0, g1, hcs⟩ := own_open hown (by omega)
  have s1 := hb1.size
  have s2 := hb2.size
  go_wp2_with fail
  refine (may_any _ _ _).mono ?_
  rintro e w3 ⟨rfl, rfl⟩
  rw [H1.out]
  go_wp2_with fail
  go_loopw [9, 10] (fun x i wr => ∃ (a : Int) (j : Nat), (j : Int) ≤ k ∧ 0 ≤ a ∧ a ≤ j ∧ Hid (a = du m k j) ∧ x = .int .i64 a ∧ i = .int .i64 j ∧ Below w3.heap.size w3 wr) (fun _ i _ => ((k : Int) - intOf i).toNat)
  case atStart => exact ⟨0, 0, by omega, by omega, by simp, by show _ = _; simpa using HZ.out.symm, rfl, rfl, Below.refl _ _⟩
  case round =>
    obtain ⟨a, j, hj, a0, a1, HI, rfl, rfl, hbw⟩ := hrel
    have s3 := hbw.size
    by_cases hlt : (j : Int) < k
    · have HO : Hid (onB m k j = adB m k j) := onB_in m0 mk k6 (by omega) (by omega)
      cases had : adB m k j
      · have HA : Hid (adB m k j = false) := had
        have HS : Hid (du m k (j + 1) = du m k j) := du_not m0 mk k6 had
        have hc : wr.cell? ⟨g, j, none⟩ = some (.bool false) := by rw [← had]; exact cell_after (p := ⟨g, j, none⟩) hbw g1 (hcs j _ (wordV_at (by omega)))
        clear had
        go_wp2_with fail
        go_region_with (go_at_call 16; refine (on_any m k j _).mono ?_; rintro e w4 ⟨rfl, hb4⟩; rw [HO.out, HA.out]; have hc4 := cell_after (p := ⟨g, j, none⟩) hb4 (by simp; omega) hc)
        all_goals
          go_wp2
          go_roundw
          case rel => exact ⟨a, j + 1, by omega, by omega, by omega, by show _ = _; have := HS.out; have := HI.out; simpa using by omega, rfl, by go_num, hbw.drew.trans (hb4.mono (by simp; omega))⟩
          case measure => simp [intOf]; omega
      · have HA : Hid (adB m k j = true) := had
        have HS : Hid (du m k (j + 1) = du m k j + 1) := du_yes m0 mk k6 had
        have hc : wr.cell? ⟨g, j, none⟩ = some (.bool true) := by rw [← had]; exact cell_after (p := ⟨g, j, none⟩) hbw g1 (hcs j _ (wordV_at (by omega)))
        clear had
        go_wp2_with fail
        go_region_with (go_at_call 16; refine (on_any m k j _).mono ?_; rintro e w4 ⟨rfl, hb4⟩; rw [HO.out, HA.out]; have hc4 := cell_after (p := ⟨g, j, none⟩) hb4 (by simp; omega) hc)
        all_goals
          go_wp2
          go_roundw
          case rel => exact ⟨a + 1, j + 1, by omega, by omega, by omega, by show _ = _; have := HS.out; have := HI.out; simpa using by omega, rfl, by go_num, hbw.drew.trans (hb4.mono (by simp; omega))⟩
          case measure => simp [intOf]; omega
    · have hjk : j = k := by omega
      subst hjk
      have ham : a = m := by have := HI.out; have := HT.out; omega
      subst ham
      have hend := (hb1.trans (hb2.mono s1)).trans (hbw.mono (show w.heap.size ≤ w3.heap.size by omega))
      by_cases c : a = j ∨ n < 0 ∨ 1000 < n
      · rcases c with c | c | c
        · subst c
          go_wp2_with fail
          go_ret
          exact ⟨rfl, hend⟩
        · go_wp2_with fail
          all_goals
            go_ret
            exact ⟨rfl, hend⟩
        · go_wp2_with fail
          all_goals
            go_ret
            exact ⟨rfl, hend⟩
      · have c1 : ¬ a = j := by omega
        have c2 : 0 ≤ n := by omega
        have c3 : n ≤ 1000 := by omega
        clear c
        have D1 : Hid (cntV a j 0 n = du a j n) := by show _ = _; rw [cntV_in m0 mk k6 (by omega) (by omega) c2 (by omega), HZ.out]; simp
        have D2 : Hid (cntV (a + 1) j 0 n = du (a + 1) j n) := by show _ = _; rw [cntV_in (by omega) (by omega) k6 (by omega) (by omega) c2 (by omega), du_zero]; simp
        have hle : du a j n ≤ du (a + 1) j n := du_more m0 mk k6 c2
        have e1 : (a == (j : Int)) = false := by simp; exact c1
        go_wp2_with fail
        refine (count_any _ _ _ _ _).mono ?_
        rintro e w5 ⟨rfl, hb5⟩
        rw [D1.out]
        go_wp2_with fail
        refine (count_any _ _ _ _ _).mono ?_
        rintro e w6 ⟨rfl, hb6⟩
        rw [D2.out]
        have s5 := hb5.size
        go_wp2
        go_ret
        exact ⟨by first | rfl | exact ret_b (decide_eq_true hle), hend.trans ((hb5.mono (by omega)).trans (hb6.mono (by omega)))⟩

set_option maxHeartbeats 1000000 in
set_option maxRecDepth 100000 in
theorem law_word (m k n : Int) (w : World) :
    Calls Try.prog 8 #[.int .i64 m, .int .i64 k, .int .i64 n] w fun e w' => e = .returned (.bool true) ∧ Below w.heap.size w w' := by
  cases h1 : mayB m k
  · have H1 : Hid (mayB m k = false) := h1
    clear h1
    go_enter Try.func8, Try.ntmps8
    go_wp2_with fail
    refine (awake2_any _).mono ?_
    rintro e w1 ⟨rfl, hb1⟩
    go_wp2_with fail
    refine (word_no m k _ H1.out).mono ?_
    rintro e w2 ⟨rfl, rfl⟩
    go_wp2_with fail
    refine (may_any m k _).mono ?_
    rintro e w3 ⟨rfl, rfl⟩
    rw [H1.out]
    go_wp2
    go_ret
    exact ⟨rfl, hb1⟩
  · obtain ⟨m0, mk, k6⟩ := mayB_of h1
    obtain ⟨K, rfl⟩ := Int.eq_ofNat_of_zero_le (show 0 ≤ k by omega)
    exact law_word_in m K n w m0 mk k6
end Go.Proofs.Ytigaboifjhkfmaa
