/- Walks of the document's own Count, Word and Bools. -/
import Derived.Test.YtigaboifjhkfmaaA5
import Derived.Test.YtigaboifjhkfmaaA4
import Derived.Test.YtigaboifjhkfmaaQ2
import Derived.Deep.RegionWith
namespace Go.Proofs.Ytigaboifjhkfmaa
open Go.RowKit

set_option maxHeartbeats 1000000 in
set_option maxRecDepth 100000 in
theorem refCount_in (m k f n : Int) (w : World) (m0 : 1 ≤ m) (mk : m ≤ k) (k6 : k ≤ 6) (f0 : 0 ≤ f) (f1 : f ≤ 1099511627776) (n0 : 0 ≤ n) (n1 : n ≤ 1099511627776) :
    Calls Try.prog 19 #[.int .i64 m, .int .i64 k, .int .i64 f, .int .i64 n] w fun e w' => e = .returned (.int .i64 (cntV m k f n)) ∧ w' = w := by
  have H1 : Hid (mayB m k = true) := mayB_mk m0 mk k6
  have H2 : Hid (jobB f = true) := jobB_mk f0 f1
  have H3 : Hid (jobB n = true) := jobB_mk n0 n1
  have H : Hid (cntV m k f n = du m k (f + n) - du m k f) := cntV_in m0 mk k6 f0 f1 n0 n1
  have q0 : 0 ≤ n / k := Int.ediv_nonneg n0 (by omega)
  have q1 : n / k ≤ n := Int.ediv_le_self _ n0
  obtain ⟨p0, p1⟩ := mul_bd m0 (show m ≤ 6 by omega) q0 (Int.le_trans q1 n1)
  have r0 : 0 ≤ n % k := Int.emod_nonneg _ (by omega)
  have r1 : n % k < k := Int.emod_lt_of_pos _ (by omega)
  have HN : Hid (f + n = f + n % k + k * (n / k)) := by show _ = _; have := Int.mul_ediv_add_emod n k; omega
  have HW : Hid (du m k (f + n) = du m k (f + n % k) + n / k * m) := by show _ = _; rw [HN.out]; exact du_whole m0 mk k6
  go_enter Try.func19, Try.ntmps19
  go_wp2_with fail
  refine (refMay_any m k _).mono ?_
  rintro e w1 ⟨rfl, rfl⟩
  rw [H1.out]
  go_wp2_with fail
  refine (refIn_any f _).mono ?_
  rintro e w1 ⟨rfl, rfl⟩
  rw [H2.out]
  go_wp2_with fail
  refine (refIn_any n _).mono ?_
  rintro e w1 ⟨rfl, rfl⟩
  rw [H3.out]
  go_wp2_with fail
  go_loop [12, 13] (fun x i => ∃ (a b : Int), 0 ≤ b ∧ b ≤ n % k ∧ 0 ≤ a ∧ a ≤ n / k * m + b ∧ Hid (a = n / k * m + du m k (f + b) - du m k f) ∧ x = .int .i64 a ∧ i = .int .i64 b) (fun _ i => (k - intOf i).toNat)
  case atStart => exact ⟨n / k * m, 0, by omega, by omega, by omega, by omega, by show _ = _; simp, rfl, rfl⟩
  case round =>
    obtain ⟨a, b, b0, b1, a0, a1, HI, rfl, rfl⟩ := hrel
    by_cases hlt : b < n % k
    · cases had : adB m k (f + b)
      · have HA : Hid (adB m k (f + b) = false) := had
        have HS : Hid (du m k (f + b + 1) = du m k (f + b)) := du_not m0 mk k6 had
        clear had
        go_wp2_with fail
        refine (refEven_in m k (f + b) _ m0 mk k6 (by omega) (by omega)).mono ?_
        rintro e w3 ⟨rfl, rfl⟩
        rw [HA.out]
        go_wp2_with fail
        go_round
        case rel => exact ⟨a, b + 1, by omega, by omega, by omega, by omega, by show _ = _; rw [← Int.add_assoc, HS.out]; exact HI.out, rfl, rfl⟩
        case measure => simp [intOf]; omega
      · have HA : Hid (adB m k (f + b) = true) := had
        have HS : Hid (du m k (f + b + 1) = du m k (f + b) + 1) := du_yes m0 mk k6 had
        clear had
        go_wp2_with fail
        refine (refEven_in m k (f + b) _ m0 mk k6 (by omega) (by omega)).mono ?_
        rintro e w3 ⟨rfl, rfl⟩
        rw [HA.out]
        go_wp2_with fail
        go_round
        case rel => exact ⟨a + 1, b + 1, by omega, by omega, by omega, by omega, by show _ = _; rw [← Int.add_assoc, HS.out]; have := HI.out; omega, rfl, rfl⟩
        case measure => simp [intOf]; omega
    · have hbk : b = n % k := by omega
      have HB : Hid (b = n % k) := hbk
      have HE : Hid (a = cntV m k f n) := by show _ = _; have h1 := HI.out; have h2 := H.out; have h3 := HW.out; rw [hbk] at h1; omega
      clear hbk
      go_wp2_with fail
      go_ret
      exact ⟨ret_i HE.out, rfl⟩

set_option maxHeartbeats 1000000 in
set_option maxRecDepth 100000 in
theorem refCount_any (m k f n : Int) (w : World) :
    Calls Try.prog 19 #[.int .i64 m, .int .i64 k, .int .i64 f, .int .i64 n] w fun e w' => e = .returned (.int .i64 (cntV m k f n)) ∧ w' = w := by
  cases h1 : mayB m k
  · have H : Hid (cntV m k f n = 0) := by show _ = _; unfold cntV; rw [h1]; rfl
    have H1 : Hid (mayB m k = false) := h1
    clear h1
    go_enter Try.func19, Try.ntmps19
    go_wp2_with fail
    refine (refMay_any m k _).mono ?_
    rintro e w1 ⟨rfl, rfl⟩
    rw [H1.out]
    go_wp2_with fail
    refine (refIn_any f _).mono ?_
    rintro e w1 ⟨rfl, rfl⟩
    go_wp2_with fail
    refine (refIn_any n _).mono ?_
    rintro e w1 ⟨rfl, rfl⟩
    go_wp2
    go_ret
    exact ⟨ret_i H.out.symm, rfl⟩
  · have H1 : Hid (mayB m k = true) := h1
    cases h2 : jobB f
    · have H : Hid (cntV m k f n = 0) := by show _ = _; unfold cntV; rw [h1, h2]; rfl
      have H2 : Hid (jobB f = false) := h2
      clear h1 h2
      go_enter Try.func19, Try.ntmps19
      go_wp2_with fail
      refine (refMay_any m k _).mono ?_
      rintro e w1 ⟨rfl, rfl⟩
      rw [H1.out]
      go_wp2_with fail
      refine (refIn_any f _).mono ?_
      rintro e w1 ⟨rfl, rfl⟩
      rw [H2.out]
      go_wp2_with fail
      refine (refIn_any n _).mono ?_
      rintro e w1 ⟨rfl, rfl⟩
      go_wp2
      go_ret
      exact ⟨ret_i H.out.symm, rfl⟩
    · have H2 : Hid (jobB f = true) := h2
      cases h3 : jobB n
      · have H : Hid (cntV m k f n = 0) := by show _ = _; unfold cntV; rw [h1, h2, h3]; rfl
        have H3 : Hid (jobB n = false) := h3
        clear h1 h2 h3
        go_enter Try.func19, Try.ntmps19
        go_wp2_with fail
        refine (refMay_any m k _).mono ?_
        rintro e w1 ⟨rfl, rfl⟩
        rw [H1.out]
        go_wp2_with fail
        refine (refIn_any f _).mono ?_
        rintro e w1 ⟨rfl, rfl⟩
        rw [H2.out]
        go_wp2_with fail
        refine (refIn_any n _).mono ?_
        rintro e w1 ⟨rfl, rfl⟩
        rw [H3.out]
        go_wp2
        go_ret
        exact ⟨ret_i H.out.symm, rfl⟩
      · obtain ⟨m0, mk, k6⟩ := mayB_of h1
        obtain ⟨f0, f1⟩ := jobB_of h2
        obtain ⟨n0, n1⟩ := jobB_of h3
        exact refCount_in m k f n w m0 mk k6 f0 f1 n0 n1

theorem wordV_step (m k : Int) (j : Nat) : wordV m k j ++ [.bool (adB m k j)] = wordV m k (j + 1) := by
  unfold wordV; rw [List.range_succ, List.map_append]; rfl

set_option maxHeartbeats 1000000 in
set_option maxRecDepth 100000 in
theorem refWord_in (m : Int) (k : Nat) (w : World) (m0 : 1 ≤ m) (mk : m ≤ k) (k6 : (k : Int) ≤ 6) :
    Calls Try.prog 13 #[.int .i64 m, .int .i64 k] w fun e w' => ∃ v, e = .returned v ∧ w'.ownsRow w.heap.size 4 1 v k (wordV m k k) ∧ Below w.heap.size w w' := by
  have H1 : Hid (mayB m k = true) := mayB_mk m0 mk k6
  obtain ⟨i0, hi, hz0, hz1, hz2⟩ := info_parts Try.info4
  go_enter Try.func13, Try.ntmps13
  go_wp2_with fail
  refine (refMay_any _ _ _).mono ?_
  rintro e w2 ⟨rfl, rfl⟩
  rw [H1.out]
  go_wp2_with fail
  go_loopw [5, 7] (fun v i wr => ∃ (j : Nat), (j : Int) ≤ k ∧ i = .int .i64 j ∧ wr.ownsRow w2.heap.size 4 1 v j (wordV m k j) ∧ Below w2.heap.size w2 wr) (fun _ i _ => ((k : Int) - intOf i).toNat)
  case atStart => exact ⟨0, by omega, rfl, World.ownsRow_nil _ _ _ _, Below.refl _ _⟩
  case round =>
    obtain ⟨j, hj, rfl, hown, hbw⟩ := hrel
    have s3 := hbw.size
    by_cases hlt : (j : Int) < k
    · have HO : Hid (onB m k j = adB m k j) := onB_in m0 mk k6 (by omega) (by omega)
      go_wp2_with fail
      refine (refOn_any m k j _).mono ?_
      rintro e w3 ⟨rfl, rfl⟩
      rw [HO.out]
      go_wp2_with (first
        | (at_builtin; refine wpList_append_own _ rfl _ _ 24 rfl w2.heap.size 4 i0 (.bool false) 1 1 Try.underlying24 hi hz0 hz1 hz2 rfl (by decide) _ _ _ rfl (hown.alloc _) ⟨w3.heap.size, 0, none⟩ 1 1 [.bool (adB m k j)] rfl rfl ?c1 ?c2 ?c3 ?c4 ?c5 ?_))
      case c1 =>
        intro i u hi'
        match i, hi' with
        | 0, hi' => simp at hi'; subst hi'; simp [Addr.add]
      case c2 => intro u hu; simp at hu; subst hu; rfl
      case c3 => unfold maxLen; omega
      case c4 => omega
      case c5 => simp; omega
      · intro v' w4 hown' hgrow _
        have hlow := hown.lt
        have hb4 : Below w2.heap.size w2 w4 := (hbw.alloc s3 _).grown hgrow (by simp; omega) (by intro g hg; exact (hlow g hg).1)
        rw [wordV_step] at hown'
        clear hown hgrow hlow
        go_wp2_with fail
        go_roundw
        case rel => exact ⟨j + 1, by omega, by go_num, hown', hb4⟩
        case measure => simp [intOf]; omega
    · have hjk : j = k := by omega
      subst hjk
      go_wp2_with fail
      go_ret
      exact ⟨_, rfl, hown, hbw⟩

set_option maxHeartbeats 1000000 in
set_option maxRecDepth 100000 in
theorem refWord_no (m k : Int) (w : World) (h : mayB m k = false) :
    Calls Try.prog 13 #[.int .i64 m, .int .i64 k] w fun e w' => e = .returned (.slice none 0 0) ∧ w' = w := by
  have H1 : Hid (mayB m k = false) := h
  clear h
  go_enter Try.func13, Try.ntmps13
  go_wp2_with fail
  refine (refMay_any _ _ _).mono ?_
  rintro e w2 ⟨rfl, rfl⟩
  rw [H1.out]
  go_wp2_with fail
  go_loop [5, 7] (fun v i => v = .slice none 0 0 ∧ i = .int .i64 0) (fun _ _ => 0)
  case atStart => exact ⟨rfl, rfl⟩
  case round =>
    obtain ⟨rfl, rfl⟩ := hrel
    by_cases c : 0 < k
    · go_wp2_with fail
      go_ret
      exact ⟨rfl, rfl⟩
    · go_wp2_with fail
      go_ret
      exact ⟨rfl, rfl⟩

set_option maxHeartbeats 1000000 in
set_option maxRecDepth 100000 in
theorem bools_same (n g1 g2 c1 c2 : Nat) (f : Nat → Bool) (w : World) (hn : n ≤ 6) (h1 : ∀ j, j < n → w.cell? ⟨g1, j, none⟩ = some (.bool (f j))) (h2 : ∀ j, j < n → w.cell? ⟨g2, j, none⟩ = some (.bool (f j))) :
    Calls Try.prog 11 #[.slice (some ⟨g1, 0, none⟩) n c1, .slice (some ⟨g2, 0, none⟩) n c2] w fun e w' => e = .returned (.bool true) ∧ Below w.heap.size w w' := by
  go_enter Try.func11, Try.ntmps11
  go_wp2_with fail
  go_loopw [5] (fun i wr => ∃ (j : Nat), j ≤ n ∧ i = .int .i64 j ∧ Below w.heap.size w wr) (fun i _ => ((n : Int) - intOf i).toNat)
  case atStart => exact ⟨0, by omega, rfl, Below.refl _ _⟩
  case round =>
    obtain ⟨j, hj, rfl, hbw⟩ := hrel
    by_cases hlt : (j : Int) < n
    · have hc1 : wr.cell? ⟨g1, j, none⟩ = some (.bool (f j)) := cell_later hbw (h1 j (by omega))
      have hc2 : wr.cell? ⟨g2, j, none⟩ = some (.bool (f j)) := cell_later hbw (h2 j (by omega))
      clear h1 h2
      go_wp2_with fail
      go_region
      all_goals
        go_wp2_with fail
        go_roundw
        case rel => exact ⟨j + 1, by omega, by go_num, hbw.drew⟩
        case measure => simp [intOf]; omega
    · have hjk : j = n := by omega
      subst hjk
      go_wp2_with fail
      go_ret
      exact ⟨rfl, hbw⟩

set_option maxHeartbeats 1000000 in
set_option maxRecDepth 100000 in
theorem bools_none (w : World) :
    Calls Try.prog 11 #[.slice none 0 0, .slice none 0 0] w fun e w' => e = .returned (.bool true) ∧ w' = w := by
  go_enter Try.func11, Try.ntmps11
  go_wp2_with fail
  go_loop [5] (fun i => i = .int .i64 0) (fun _ => 0)
  case atStart => exact rfl
  case round =>
    subst hrel
    go_wp2_with fail
    go_ret
    exact ⟨rfl, rfl⟩
end Go.Proofs.Ytigaboifjhkfmaa
