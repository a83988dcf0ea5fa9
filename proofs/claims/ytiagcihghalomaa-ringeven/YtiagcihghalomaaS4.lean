/- The walk of the statement RingEven: it returns true, and writes nothing that was there. -/
import Derived.Test.YtiagcihghalomaaV2
import Derived.Test.YtiagcihghalomaaM1
import Derived.Test.YtiagcihghalomaaQ2
namespace Go.Proofs.Ytiagcihghalomaa
open Go.RowKit

theorem own_later {w w' : World} {base n : Nat} {e : TypeId} {size : Nat} {v : Value} {xs : List Value} (h : w.ownsRow base e size v n xs) (hb : Below w.heap.size w w') : w'.ownsRow base e size v n xs := by
  have hl := h.lt
  obtain ⟨h0, h1 | ⟨g, cap, cur, rfl, h2, h3, h4⟩⟩ := h
  · exact ⟨h0, .inl h1⟩
  · exact ⟨h0, .inr ⟨g, cap, cur, rfl, h2, by rw [hb.block g (hl g rfl).2]; exact h3, h4⟩⟩

/-- Outcomes that are good where a job is mandatory, or where one more is. -/
def evL (m k f : Int) (ys : List Bool) (j : Nat) : List Bool := (List.range j).map fun (i : Nat) => onB m k (f + i) || ys.getD i false

theorem evL_len (m k f : Int) (ys : List Bool) (j : Nat) : (evL m k f ys j).length = j := by simp [evL]
theorem evL_step (m k f : Int) (ys : List Bool) (j : Nat) : evL m k f ys j ++ [onB m k (f + j) || ys.getD j false] = evL m k f ys (j + 1) := by
  unfold evL; rw [List.range_succ, List.map_append]; rfl
theorem bvs_step (m k f : Int) (ys : List Bool) (j : Nat) : bvs (evL m k f ys j) ++ [.bool (onB m k (f + j) || ys.getD j false)] = bvs (evL m k f ys (j + 1)) := by
  rw [← evL_step]; simp [bvs]
theorem evL_gd {m k f : Int} {ys : List Bool} {n i : Nat} (h : i < n) : gd (evL m k f ys n).reverse i = (onB m k (f + (n - 1 - i : Nat)) || ys.getD (n - 1 - i) false) := by
  have hl := evL_len m k f ys n
  unfold gd
  rw [List.getD, List.getElem?_reverse (by omega), hl]
  unfold evL
  rw [List.getElem?_map, List.getElem?_range (by omega)]; rfl

theorem evL_cnt {m k f : Int} {ys : List Bool} {n s t : Nat} (m0 : 1 ≤ m) (mk : m ≤ k) (k6 : k ≤ 6) (f0 : 0 ≤ f) (f1 : f ≤ 1000000) (n1 : n ≤ 60) (h : s + t ≤ n) :
    du m k (f + (n - s : Nat)) - du m k (f + (n - s - t : Nat)) ≤ (cnt (gd (evL m k f ys n).reverse) s t : Int) := by
  induction t with
  | zero => simp
  | succ t ih =>
    have ih := ih (by omega)
    have hs := du_step (n := f + (n - s - (t + 1) : Nat)) m0 mk k6
    rw [show f + (n - s - (t + 1) : Nat) + 1 = f + (n - s - t : Nat) by omega] at hs
    rw [cnt, evL_gd (by omega), show n - 1 - (s + t) = n - s - (t + 1) by omega, onB_in m0 mk k6 (by omega) (by omega)]
    cases hc : adB m k (f + (n - s - (t + 1) : Nat)) with
    | false => simp only [hc] at hs; simp at hs; omega
    | true => simp only [hc] at hs; simp at hs; simp; omega

theorem evL_fine {m f : Int} {k : Nat} {ys : List Bool} {n : Nat} (m0 : 1 ≤ m) (mk : m ≤ k) (k6 : (k : Int) ≤ 6) (f0 : 0 ≤ f) (f1 : f ≤ 1000000) (n1 : n ≤ 60) : FineP (evL m k f ys n).reverse m k := by
  intro s hs
  rw [List.length_reverse, evL_len] at hs
  have h := evL_cnt (ys := ys) (s := s) (t := k) m0 mk k6 f0 f1 n1 (by omega)
  have ht := du_turn (n := f + (n - s - k : Nat)) m0 mk k6
  rw [show f + (n - s - k : Nat) + k = f + (n - s : Nat) by omega] at ht
  omega

set_option maxHeartbeats 2000000 in
set_option maxRecDepth 100000 in
theorem even_in (m : Int) (k : Nat) (f : Int) (n : Nat) (ys : List Bool) (v : Value) (w : World) (h : Row w v ys) (m0 : 1 ≤ m) (mk : m ≤ k) (k6 : (k : Int) ≤ 6) (f0 : 0 ≤ f) (f1 : f ≤ 1000000) (n1 : (n : Int) ≤ 60) :
    Calls Try.prog 6 #[.int .i64 m, .int .i64 k, .int .i64 f, .int .i64 n, v] w fun e w' => e = .returned (.bool true) ∧ Below w.heap.size w w' := by
  have H1 : Hid (mayB m k = true) := mayB_mk m0 mk k6
  obtain ⟨i0, hi, hz0, hz1, hz2⟩ := info_parts Try.info4
  obtain ⟨a, cap, rfl, r1, r2, r3⟩ := h
  unfold maxLen at r2
  go_enter Try.func6, Try.ntmps6
  go_wp2_with fail
  refine (awake3_any _).mono ?_
  rintro e w1 ⟨rfl, hb1⟩
  go_wp2_with fail
  refine (may_any _ _ _).mono ?_
  rintro e w1' ⟨rfl, rfl⟩
  rw [H1.out]
  have s1 := hb1.size
  go_wp2_with fail
  go_loopw [12, 13] (fun u i wr => ∃ (j : Nat), j ≤ n ∧ i = .int .i64 j ∧ wr.ownsRow w1'.heap.size 4 1 u j (bvs (evL m k f ys j)) ∧ Below w1'.heap.size w1' wr) (fun _ i _ => ((n : Int) - intOf i).toNat)
  case atStart => exact ⟨0, by omega, rfl, World.ownsRow_nil _ _ _ _, Below.refl _ _⟩
  case round =>
    obtain ⟨j, hj, rfl, hown, hbw⟩ := hrel
    by_cases hlt : (j : Int) < n
    · have HSt : Hid (bvs (evL m k f ys j) ++ [.bool (onB m k (f + j) || ys.getD j false)] = bvs (evL m k f ys (j + 1))) := bvs_step m k f ys j
      go_wp2_with fail
      refine (on_any m k (f + j) _).mono ?_
      rintro e w3 ⟨rfl, hb3⟩
      have hown3 := own_later hown hb3
      have hb13 := below_step hb3 hbw
      have s3 := hb13.size
      clear hown
      cases hon : onB m k (f + j)
      · by_cases hjy : (j : Int) < ys.length
        · obtain ⟨b, o, rfl, r4⟩ := r3 (by intro e; rw [e, List.length_nil] at hjy; omega)
          obtain ⟨y, hyj⟩ : ∃ y, ys[j]? = some y := ⟨_, List.getElem?_eq_getElem (by omega)⟩
          have hc := cell_later hb13 (cell_later hb1 (r4 j y hyj))
          have HX : Hid ((onB m k (f + j) || ys.getD j false) = y) := by show _ = _; rw [hon]; simp [List.getD, hyj]
          clear hyj r4 r3 hon
          go_wp2_with (first
            | (at_builtin; refine wpList_append_own _ rfl _ _ 25 rfl w1'.heap.size 4 i0 (.bool false) 1 1 Try.underlying25 hi hz0 hz1 hz2 rfl (by decide) _ _ _ rfl (hown3.alloc _) ⟨w3.heap.size, 0, none⟩ 1 1 [.bool y] rfl rfl ?c1A ?c2A ?c3A ?c4A ?c5A ?_))
          case c1A =>
            intro i u hi'
            match i, hi' with
            | 0, hi' => simp at hi'; subst hi'; simp [Addr.add]
          case c2A => intro u hu; simp at hu; subst hu; rfl
          case c3A => unfold maxLen; omega
          case c4A => omega
          case c5A => simp; omega
          · intro v' w4 hown' hgrow _
            have hlow := hown3.lt
            have hb4 : Below w1'.heap.size w1' w4 := (hb13.alloc s3 _).grown hgrow (by simp; omega) (by intro g hg; exact (hlow g hg).1)
            rw [show bvs (evL m k f ys j) ++ [.bool y] = bvs (evL m k f ys (j + 1)) from by rw [← HSt.out, HX.out]] at hown'
            clear hown3 hgrow hlow
            go_wp2_with fail
            go_roundw
            case rel => exact ⟨j + 1, by omega, by go_num, hown', hb4⟩
            case measure => simp [intOf]; omega
        · have HX : Hid ((onB m k (f + j) || ys.getD j false) = false) := by show _ = _; rw [hon]; simp [List.getD, List.getElem?_eq_none (show ys.length ≤ j by omega)]
          clear r3 hon
          go_wp2_with (first
            | (at_builtin; refine wpList_append_own _ rfl _ _ 25 rfl w1'.heap.size 4 i0 (.bool false) 1 1 Try.underlying25 hi hz0 hz1 hz2 rfl (by decide) _ _ _ rfl (hown3.alloc _) ⟨w3.heap.size, 0, none⟩ 1 1 [.bool false] rfl rfl ?c1B ?c2B ?c3B ?c4B ?c5B ?_))
          case c1B =>
            intro i u hi'
            match i, hi' with
            | 0, hi' => simp at hi'; subst hi'; simp [Addr.add]
          case c2B => intro u hu; simp at hu; subst hu; rfl
          case c3B => unfold maxLen; omega
          case c4B => omega
          case c5B => simp; omega
          · intro v' w4 hown' hgrow _
            have hlow := hown3.lt
            have hb4 : Below w1'.heap.size w1' w4 := (hb13.alloc s3 _).grown hgrow (by simp; omega) (by intro g hg; exact (hlow g hg).1)
            rw [show bvs (evL m k f ys j) ++ [.bool false] = bvs (evL m k f ys (j + 1)) from by rw [← HSt.out, HX.out]] at hown'
            clear hown3 hgrow hlow
            go_wp2_with fail
            go_roundw
            case rel => exact ⟨j + 1, by omega, by go_num, hown', hb4⟩
            case measure => simp [intOf]; omega
      · have HX : Hid ((onB m k (f + j) || ys.getD j false) = true) := by show _ = _; rw [hon]; rfl
        clear r3 hon
        go_wp2_with (first
          | (at_builtin; refine wpList_append_own _ rfl _ _ 25 rfl w1'.heap.size 4 i0 (.bool false) 1 1 Try.underlying25 hi hz0 hz1 hz2 rfl (by decide) _ _ _ rfl (hown3.alloc _) ⟨w3.heap.size, 0, none⟩ 1 1 [.bool true] rfl rfl ?c1C ?c2C ?c3C ?c4C ?c5C ?_))
        case c1C =>
          intro i u hi'
          match i, hi' with
          | 0, hi' => simp at hi'; subst hi'; simp [Addr.add]
        case c2C => intro u hu; simp at hu; subst hu; rfl
        case c3C => unfold maxLen; omega
        case c4C => omega
        case c5C => simp; omega
        · intro v' w4 hown' hgrow _
          have hlow := hown3.lt
          have hb4 : Below w1'.heap.size w1' w4 := (hb13.alloc s3 _).grown hgrow (by simp; omega) (by intro g hg; exact (hlow g hg).1)
          rw [show bvs (evL m k f ys j) ++ [.bool true] = bvs (evL m k f ys (j + 1)) from by rw [← HSt.out, HX.out]] at hown'
          clear hown3 hgrow hlow
          go_wp2_with fail
          go_roundw
          case rel => exact ⟨j + 1, by omega, by go_num, hown', hb4⟩
          case measure => simp [intOf]; omega
    · have hjk : j = n := by omega
      subst hjk
      clear r3
      have hrow := Row.own hown (evL_len m k f ys j).symm
      have hlen := evL_len m k f ys j
      have hfine := evL_fine (ys := ys) m0 mk k6 f0 f1 (show j ≤ 60 by omega)
      have hzr : ofZ (evL m k f ys j) = (evL m k f ys j).reverse := by unfold ofZ; rw [List.take_of_length_le (by simp; omega)]
      have hzl : (evL m k f ys j).reverse.length ≤ 60 := by simp; omega
      have hzn : (evL m k f ys j).reverse.length = j := by simp [hlen]
      have hxl : (evL m k f ys j).length ≤ 1000 := by omega
      generalize (evL m k f ys j).reverse = zs at *
      generalize evL m k f ys j = ls at *
      have HZ : Hid (ofZ ls = zs) := hzr
      have HN : Hid (zs.length = j) := hzn
      have HF : Hid (FineP zs m k) := hfine
      have hv := val_bd hzl
      clear hzr hzn hfine hlen hown
      have hb2 : Below w.heap.size w wr := hb1.trans (hbw.mono s1)
      clear hbw
      go_wp2_with fail
      refine (of_any ls _ _ hrow hxl).mono ?_
      rintro e w4 ⟨rfl, hb4⟩
      rw [HZ.out]
      replace hb4 := hb2.trans (hb4.mono hb2.size)
      clear hrow hb2
      unfold ringV
      go_wp2_with fail
      refine (fine_ring zs m k _ hzl m0 mk k6).mono ?_
      rintro e w5 ⟨rfl, hb5⟩
      rw [Int.toNat_natCast, fineB_yes HF.out]
      have t4 : Two (w4.alloc (.cells #[.int .i64 zs.length, .int .u64 (val zs)] 24)) w4.heap.size (.int .i64 zs.length) (.int .u64 (val zs)) := by simp [Two]
      have t5 := t4.later hb5
      have hb45 : Below w4.heap.size w4 w5 := ((Below.refl _ _).alloc (by simp) _).trans (hb5.mono (by simp))
      replace hb5 := hb4.trans (hb45.mono hb4.size)
      clear t4 hb45 hb4
      obtain ⟨a0, a1, a2, a3⟩ := id t5
      by_cases hjk : (j : Int) < k
      · go_wp2
        go_ret
        exact ⟨by first | rfl | exact ret_b (by simp), hb5⟩
      · have hck : m ≤ (cnt (gd zs) 0 k : Int) := HF.out 0 (by have := HN.out; omega)
        have HG : Hid (goodR zs k = cnt (gd zs) 0 k) := by show _ = _; rw [goodR_nat]; congr 1; have := HN.out; omega
        have hck' := cnt_le (gd zs) 0 k
        go_wp2_with fail
        refine (good_ring zs k _ hzl).mono ?_
        rintro e w6 ⟨rfl, hb6⟩
        rw [HG.out]
        have t6 := t5.later hb6
        replace hb6 := hb5.trans (hb6.mono hb5.size)
        clear a0 a1 a2 a3 hb5 t5
        obtain ⟨a0, a1, a2, a3⟩ := id t6
        have HC : Hid ((m : Int) ≤ (cnt (gd zs) 0 k : Int)) := hck
        generalize cnt (gd zs) 0 k = ck at *
        go_wp2_with fail
        refine (far_ring zs m k _ hzl m0 mk k6).mono ?_
        rintro e w7 ⟨q, rfl, hq, hb7⟩
        replace hb7 := hb6.trans (hb7.mono hb6.size)
        have hq0 : 0 < q := by
          rcases Nat.eq_zero_or_pos q with e | e
          · subst e
            have h1 := hq.2.1
            have h2 := HF.out 0 (by have := HN.out; omega)
            rw [Int.toNat_natCast, Nat.sub_zero] at h1
            omega
          · exact e
        have hqk := hq.1
        clear hq
        go_wp2
        go_ret
        exact ⟨by first | rfl | exact ret_b (decide_eq_true (by omega)), hb7⟩

set_option maxHeartbeats 2000000 in
set_option maxRecDepth 100000 in
theorem law_even (m k f n : Int) (ys : List Bool) (v : Value) (w : World) (h : Row w v ys) :
    Calls Try.prog 6 #[.int .i64 m, .int .i64 k, .int .i64 f, .int .i64 n, v] w fun e w' => e = .returned (.bool true) ∧ Below w.heap.size w w' := by
  cases h1 : mayB m k
  · have H1 : Hid (mayB m k = false) := h1
    clear h1
    go_enter Try.func6, Try.ntmps6
    go_wp2_with fail
    refine (awake3_any _).mono ?_
    rintro e w1 ⟨rfl, hb1⟩
    go_wp2_with fail
    refine (may_any _ _ _).mono ?_
    rintro e w1' ⟨rfl, rfl⟩
    rw [H1.out]
    go_wp2
    all_goals
      go_ret
      exact ⟨rfl, hb1⟩
  · obtain ⟨m0, mk, k6⟩ := mayB_of h1
    by_cases c : 0 ≤ n ∧ n ≤ 60 ∧ 0 ≤ f ∧ f ≤ 1000000
    · obtain ⟨c1, c2, c3, c4⟩ := c
      obtain ⟨K, rfl⟩ := Int.eq_ofNat_of_zero_le (show 0 ≤ k by omega)
      obtain ⟨n, rfl⟩ := Int.eq_ofNat_of_zero_le c1
      exact even_in m K f n ys v w h m0 mk k6 c3 c4 c2
    · have H1 : Hid (mayB m k = true) := h1
      clear h1
      rcases (show n < 0 ∨ 0 ≤ n ∧ 60 < n ∨ 0 ≤ n ∧ n ≤ 60 ∧ f < 0 ∨ 0 ≤ n ∧ n ≤ 60 ∧ 0 ≤ f ∧ 1000000 < f by omega) with d | ⟨d1, d2⟩ | ⟨d1, d2, d3⟩ | ⟨d1, d2, d3, d4⟩
      all_goals clear c
      · go_enter Try.func6, Try.ntmps6
        go_wp2_with fail
        refine (awake3_any _).mono ?_
        rintro e w1 ⟨rfl, hb1⟩
        go_wp2_with fail
        refine (may_any _ _ _).mono ?_
        rintro e w1' ⟨rfl, rfl⟩
        rw [H1.out]
        go_wp2
        all_goals
          go_ret
          exact ⟨rfl, hb1⟩
      · go_enter Try.func6, Try.ntmps6
        go_wp2_with fail
        refine (awake3_any _).mono ?_
        rintro e w1 ⟨rfl, hb1⟩
        go_wp2_with fail
        refine (may_any _ _ _).mono ?_
        rintro e w1' ⟨rfl, rfl⟩
        rw [H1.out]
        go_wp2
        all_goals
          go_ret
          exact ⟨rfl, hb1⟩
      · go_enter Try.func6, Try.ntmps6
        go_wp2_with fail
        refine (awake3_any _).mono ?_
        rintro e w1 ⟨rfl, hb1⟩
        go_wp2_with fail
        refine (may_any _ _ _).mono ?_
        rintro e w1' ⟨rfl, rfl⟩
        rw [H1.out]
        go_wp2
        all_goals
          go_ret
          exact ⟨rfl, hb1⟩
      · go_enter Try.func6, Try.ntmps6
        go_wp2_with fail
        refine (awake3_any _).mono ?_
        rintro e w1 ⟨rfl, hb1⟩
        go_wp2_with fail
        refine (may_any _ _ _).mono ?_
        rintro e w1' ⟨rfl, rfl⟩
        rw [H1.out]
        go_wp2
        all_goals
          go_ret
          exact ⟨rfl, hb1⟩
end Go.Proofs.Ytiagcihghalomaa
