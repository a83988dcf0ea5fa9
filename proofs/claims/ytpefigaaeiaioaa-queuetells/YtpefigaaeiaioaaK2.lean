/- The statement on the first item. -/
import Derived.Test.YtpefigaaeiaioaaK1
namespace Go.Proofs.Ytpefigaaeiaioaa
open Go.RowKit
set_option linter.unusedVariables false

theorem ids_iff {xs : List (Int × Int)} : (∀ i j, i < xs.length → j < i → (atI xs j).2 ≠ (atI xs i).2) ↔ (xs.map (·.2)).Nodup := by
  have e : ∀ k (hk : k < xs.length), xs[k] = atI xs k := fun k hk => by simp [atI, List.getD, hk]
  unfold List.Nodup
  rw [List.pairwise_iff_getElem]
  constructor
  · intro h i j hi hj hij
    simp only [List.length_map] at hi hj
    rw [List.getElem_map, List.getElem_map, e i hi, e j hj]
    exact h j i hj hij
  · intro h i j hi hj
    have := h j i (by simp; omega) (by simpa using hi) hj
    rwa [List.getElem_map, List.getElem_map, e i hi, e j (by omega)] at this
theorem may_nodup {xs : List (Int × Int)} (h : mayB xs = true) : (xs.map (·.2)).Nodup := ids_iff.1 fun i j hi hj => may_ids h hi hj
theorem may_iff {xs : List (Int × Int)} : mayB xs = true ↔ xs.length ≤ 40 ∧ srtd xs ∧ (xs.map (·.2)).Nodup :=
  ⟨fun h => ⟨may_len h, may_srtd h, may_nodup h⟩, fun ⟨h1, h2, h3⟩ => may_of h1 h2 (ids_iff.2 h3)⟩
theorem canP_iff {xs : List (Int × Int)} {x : Int × Int} : canP xs x = true ↔ mayB xs = true ∧ xs.length ≤ 39 ∧ ∀ y ∈ xs, y.2 ≠ x.2 := by
  unfold canP
  rw [Bool.and_eq_true, Bool.and_eq_true, decide_eq_true_eq, decide_eq_true_eq]
  constructor
  · rintro ⟨⟨h1, h2⟩, h3⟩
    refine ⟨h1, by have := may_len h1; omega, fun y hy => ?_⟩
    rcases fnd_cases xs x.2 with ⟨j, hj, _⟩ | ⟨_, hk⟩
    · omega
    · obtain ⟨k, hk'⟩ := List.getElem?_of_mem hy
      have := hk k (List.getElem?_eq_some_iff.1 hk').1
      rwa [atI_of hk'] at this
  · rintro ⟨h1, h2, h3⟩
    refine ⟨⟨h1, by omega⟩, ?_⟩
    rw [fnd_none fun k hk => h3 _ (atI_mem hk)]; omega
theorem push_may {xs : List (Int × Int)} {x : Int × Int} (h : canP xs x = true) : mayB (srt (xs ++ [x])) = true := by
  obtain ⟨h1, h2, h3⟩ := canP_iff.1 h
  refine may_iff.2 ⟨by rw [srt_len]; simp; omega, srt_srtd _, ?_⟩
  have p := (srt_perm (xs ++ [x])).map (fun z => z.2)
  rw [p.nodup_iff, List.map_append, List.nodup_append]
  refine ⟨may_nodup h1, by simp, ?_⟩
  intro a ha b hb
  obtain ⟨y, hy, rfl⟩ := List.mem_map.1 ha
  simp at hb; subst hb
  exact h3 y hy
/-- Whether an item is ahead of all. -/
def ahB (xs : List (Int × Int)) (x : Int × Int) : Bool := decide (xs.length = 0) || ahd x (atI xs 0)
theorem first_yes {xs : List (Int × Int)} {x : Int × Int} (h : srtd xs) (ha : ahB xs x = true) : srt (xs ++ [x]) = x :: xs := by
  refine (srt_of (ys := x :: xs) ?_ (List.perm_append_comm (l₁ := [x]) (l₂ := xs))).symm
  cases xs with
  | nil => exact List.pairwise_singleton _ _
  | cons y ys =>
    have hxy : ahd x y = true := by unfold ahB at ha; simpa [atI] using ha
    refine List.pairwise_cons.2 ⟨fun z hz => ?_, h⟩
    rcases List.mem_cons.1 hz with rfl | hz
    · exact ile_of hxy
    · exact ile_trans (ile_of hxy) ((List.pairwise_cons.1 h).1 z hz)
theorem first_no {xs : List (Int × Int)} {x : Int × Int} (h : canP xs x = true) (ha : ahB xs x = false) : atI (srt (xs ++ [x])) 0 ≠ x := by
  obtain ⟨h1, h2, h3⟩ := canP_iff.1 h
  cases xs with
  | nil => simp [ahB] at ha
  | cons y ys =>
    have hxy : ahd x y = false := by unfold ahB at ha; simpa [atI] using ha
    intro e
    have hm : y ∈ srt ((y :: ys) ++ [x]) := (srt_perm _).mem_iff.2 (by simp)
    obtain ⟨k, hk⟩ := List.getElem?_of_mem hm
    have := head_ile (srt_srtd ((y :: ys) ++ [x])) (List.getElem?_eq_some_iff.1 hk).1
    rw [e, atI_of hk] at this
    exact h3 y (by simp) (by rw [ile_anti this hxy])
theorem Its.form {w : World} {v : Value} {xs : List (Int × Int)} (h : Its w v xs) : ∃ a cap, v = .slice a xs.length cap := by
  obtain ⟨a, cap, rfl, _⟩ := h; exact ⟨a, cap, rfl⟩
theorem qOf_of {xs : List (Int × Int)} (h : mayB xs = true) : qOf xs = xs := by unfold qOf; rw [if_pos h]
theorem popL_of {xs : List (Int × Int)} (h : mayB xs = true) : popL xs = xs.tail := by
  unfold popL; rw [qOf_of h]; split
  · rfl
  · next hn => rw [List.eq_nil_of_length_eq_zero (show xs.length = 0 by omega)]; rfl
theorem ahB_eq {xs : List (Int × Int)} {x m : Int × Int} (hl : xs.length ≠ 0) (hm : atI xs 0 = m) : ahB xs x = ahd x m := by unfold ahB; rw [decide_eq_false hl, hm]; rfl

set_option maxHeartbeats 2000000 in
set_option maxRecDepth 100000 in
theorem law_first (xs : List (Int × Int)) (v : Value) (kx ix : Int) (w : World) (h : Its w v xs) :
    Calls Try.prog 8 #[v, .agg #[.int .i64 kx, .int .i64 ix]] w fun e w' => e = .returned (.bool true) ∧ Below w.heap.size w w' := by
  have HI : Hid (Its w v xs) := h
  obtain ⟨a, cap, rfl, h1, h2, _, _⟩ := h
  have b0 : Below w.heap.size w (w.alloc (.cells #[.int .i64 kx, .int .i64 ix] 24)) := (Below.refl _ _).alloc (Nat.le_refl _) _
  have hne := item_neq4
  have heq := item_eql4
  have hself := itB_self
  go_enter Try.func8, Try.ntmps8
  go_wp2_with fail
  refine (awake_any _).mono ?_
  rintro e w1 ⟨rfl, hb1⟩
  have x0 := cell_later (p := ⟨w.heap.size, 0, none⟩) hb1 (by simp; rfl)
  have x1 := cell_later (p := ⟨w.heap.size, 1, none⟩) hb1 (by simp; rfl)
  have HB1 : Hid (Below w.heap.size w w1) := below_next b0 hb1 (by simp)
  clear hb1 b0
  go_wp2_with fail
  refine (may_any xs _ _ (HI.out.later HB1.out)).mono ?_
  rintro e w2 ⟨rfl, hb2⟩
  have x0 := cell_later hb2 x0
  have x1 := cell_later hb2 x1
  have HB2 : Hid (Below w.heap.size w w2) := below_next HB1.out hb2 HB1.out.size
  clear hb2 HB1
  generalize hm : mayB xs = m
  have HM : Hid (mayB xs = m) := hm
  clear hm
  cases m
  · go_wp2_with fail
    go_ret
    exact ⟨rfl, HB2.out⟩
  · have hlen := may_len HM.out
    go_wp2_with fail
    refine (min_any xs _ _ (HI.out.later HB2.out)).mono ?_
    rintro e w3 ⟨rfl, hb3⟩
    rw [qOf_of HM.out]
    have x0 := cell_later hb3 x0
    have x1 := cell_later hb3 x1
    have HB3 : Hid (Below w.heap.size w w3) := below_next HB2.out hb3 HB2.out.size
    clear hb3 HB2
    generalize hmx : atI xs 0 = mx
    obtain ⟨mk, mi⟩ := mx
    have HX : Hid (atI xs 0 = (mk, mi)) := hmx
    clear hmx
    generalize hbl : decide (0 < xs.length) = bl
    have HL : Hid (decide (0 < xs.length) = bl) := hbl
    clear hbl
    unfold itV
    have b3 : Below w3.heap.size w3 (w3.alloc (.cells #[.int .i64 mk, .int .i64 mi] 24)) := (Below.refl _ _).alloc (Nat.le_refl _) _
    have s3 := HB3.out.size
    go_wp2_with fail
    refine (pop_any xs _ _ (HI.out.later (below_next HB3.out b3 s3)) (by omega)).mono ?_
    rintro e w4 ⟨v4, rfl, hown4, hb4⟩
    rw [qOf_of HM.out, HX.out, HL.out]
    rw [popL_of HM.out] at hown4
    obtain ⟨a4, cap4, rfl⟩ := (Its.own hown4).1.form
    have x0 := cell_later hb4 (cell_later b3 x0)
    have x1 := cell_later hb4 (cell_later b3 x1)
    have m0 := cell_later (p := ⟨w3.heap.size, 0, none⟩) hb4 (by simp; rfl)
    have m1 := cell_later (p := ⟨w3.heap.size, 1, none⟩) hb4 (by simp; rfl)
    have HB4 : Hid (Below w.heap.size w w4) := below_next (below_next HB3.out b3 s3) hb4 (by simp; omega)
    have s4 := HB4.out.size
    have l3 : w3.heap.size < w4.heap.size := World.block_lt_of_cell? _ _ m0
    have lx : w.heap.size < w4.heap.size := World.block_lt_of_cell? _ _ x0
    clear hb4 b3 HB3 hown4
    unfold itV
    have htl : ((xs.tail.length : Nat) : Int) = xs.length - 1 ∨ xs.length = 0 := by rw [List.length_tail]; omega
    generalize xs.tail.length = tl at *
    have b4 : Below w4.heap.size w4 (w4.alloc (.cells #[.int .i64 mk, .int .i64 mi] 24)) := (Below.refl _ _).alloc (Nat.le_refl _) _
    have HB5 : Hid (Below w.heap.size w (w4.alloc (.cells #[.int .i64 mk, .int .i64 mi] 24))) := below_next HB4.out b4 s4
    have y0 := cell_later b4 x0
    have y1 := cell_later b4 x1
    have n0 := cell_later b4 m0
    have n1 := cell_later b4 m1
    clear b4 HB4
    have hz : (xs.length = 0 ∧ bl = false) ∨ (0 < xs.length ∧ bl = true) := by
      rw [← HL.out]
      rcases Nat.eq_zero_or_pos xs.length with e | e
      · exact Or.inl ⟨e, by rw [e]; rfl⟩
      · exact Or.inr ⟨e, decide_eq_true e⟩
    rcases hz with ⟨hz, rfl⟩ | ⟨hz, rfl⟩
    · obtain rfl := List.eq_nil_of_length_eq_zero hz
      clear htl hz hlen HM HX HL
      have HC : Hid (canP [] (kx, ix) = true) := canP_iff.2 ⟨by decide, by simp, by simp⟩
      have HQ : Hid (pushL [] (kx, ix) = [(kx, ix)]) := by show _ = _; unfold pushL; rw [if_pos HC.out]; rfl
      have HM1 : Hid (mayB [(kx, ix)] = true) := may_iff.2 ⟨by simp, List.pairwise_singleton _ _, by simp⟩
      simp only [List.length_nil] at *
      go_wp2_with fail
      refine (push_any [] _ (kx, ix) _ (HI.out.later HB5.out) (by simp)).mono ?_
      rintro e w6 ⟨v6, rfl, hown6, hb6⟩
      rw [HC.out]
      rw [HQ.out] at hown6
      have HI6 : Hid (Its w6 v6 [(kx, ix)]) := (Its.own hown6).1
      have HB6 : Hid (Below w.heap.size w w6) := below_next HB5.out hb6 HB5.out.size
      have y0 := cell_later hb6 y0
      have y1 := cell_later hb6 y1
      have n0 := cell_later hb6 n0
      have n1 := cell_later hb6 n1
      clear hown6 hb6 HB5 HQ
      go_wp2_with fail
      refine (pop_any [(kx, ix)] v6 _ HI6.out (by simp)).mono ?_
      rintro e w7 ⟨v7, rfl, hown7, hb7⟩
      rw [popL_of HM1.out] at hown7
      rw [qOf_of HM1.out, show atI [(kx, ix)] 0 = (kx, ix) from rfl, show decide (0 < [(kx, ix)].length) = true from rfl]
      have y0 := cell_later hb7 y0
      have y1 := cell_later hb7 y1
      have n0 := cell_later hb7 n0
      have n1 := cell_later hb7 n1
      have HB7 : Hid (Below w.heap.size w w7) := below_next HB6.out hb7 HB6.out.size
      have HI7 : Hid (Its w7 v7 []) := (Its.own hown7).1
      have lx7 : w.heap.size < w7.heap.size := World.block_lt_of_cell? _ _ y0
      have ln7 : w3.heap.size < w7.heap.size := World.block_lt_of_cell? _ _ n0
      clear hown7 hb7 HB6
      unfold itV
      have b7 : Below w7.heap.size w7 (w7.alloc (.cells #[.int .i64 kx, .int .i64 ix] 24)) := (Below.refl _ _).alloc (Nat.le_refl _) _
      have HB8 : Hid (Below w.heap.size w (w7.alloc (.cells #[.int .i64 kx, .int .i64 ix] 24))) := below_next HB7.out b7 HB7.out.size
      have HI8 : Hid (Its (w7.alloc (.cells #[.int .i64 kx, .int .i64 ix] 24)) v7 []) := HI7.out.later b7
      clear b7 HB7 HI7
      go_wp2_with fail
      refine (same_eq [] v7 _ _ HI8.out (HI.out.later HB8.out) (by simp)).mono ?_
      rintro e w9 ⟨rfl, hb9⟩
      have HB9 : Hid (Below w.heap.size w w9) := below_next HB8.out hb9 HB8.out.size
      clear hb9 HB8
      go_wp2_with fail
      go_ret
      exact ⟨rfl, HB9.out⟩
    · have hz' : 0 < (xs.length : Int) := by omega
      have htl' : (tl : Int) = xs.length - 1 := by omega
      clear htl
      go_wp2_with fail
      refine (push_any xs _ (kx, ix) _ (HI.out.later HB5.out) (by omega)).mono ?_
      rintro e w6 ⟨v6, rfl, hown6, hb6⟩
      have HI6 : Hid (Its w6 v6 (pushL xs (kx, ix))) := (Its.own hown6).1
      have HB6 : Hid (Below w.heap.size w w6) := below_next HB5.out hb6 HB5.out.size
      have y0 := cell_later hb6 y0
      have y1 := cell_later hb6 y1
      have n0 := cell_later hb6 n0
      have n1 := cell_later hb6 n1
      clear hown6 hb6 HB5
      generalize hc : canP xs (kx, ix) = c
      have HC : Hid (canP xs (kx, ix) = c) := hc
      clear hc
      cases c
      · have HQ : Hid (pushL xs (kx, ix) = xs) := by show _ = _; unfold pushL; rw [HC.out]; rfl
        rw [HQ.out] at HI6
        go_wp2_with fail
        refine (same_eq xs v6 _ _ HI6.out (HI.out.later HB6.out) (by omega)).mono ?_
        rintro e w9 ⟨rfl, hb9⟩
        have HB9 : Hid (Below w.heap.size w w9) := below_next HB6.out hb9 HB6.out.size
        clear hb9 HB6
        go_wp2_with fail
        go_ret
        exact ⟨rfl, HB9.out⟩
      · have HQ : Hid (pushL xs (kx, ix) = srt (xs ++ [(kx, ix)])) := by show _ = _; unfold pushL; rw [if_pos HC.out]
        have HM1 := push_may HC.out
        rw [HQ.out] at HI6
        have hl6 : (srt (xs ++ [(kx, ix)])).length ≤ 41 := by rw [srt_len]; simp; omega
        have HA1 : Hid (ahB xs (kx, ix) = true → srt (xs ++ [(kx, ix)]) = (kx, ix) :: xs) := first_yes (may_srtd HM.out)
        have HA0 : Hid (ahB xs (kx, ix) = false → atI (srt (xs ++ [(kx, ix)])) 0 ≠ (kx, ix)) := first_no HC.out
        have HAE : Hid (ahB xs (kx, ix) = ahd (kx, ix) (mk, mi)) := ahB_eq (by omega) HX.out
        generalize hzs : srt (xs ++ [(kx, ix)]) = zs at *
        have HZ : Hid (srt (xs ++ [(kx, ix)]) = zs) := hzs
        clear hzs
        have hpos6 : decide (0 < zs.length) = true := by rw [← HZ.out, srt_len]; simp
        go_wp2_with fail
        refine (pop_any zs v6 _ HI6.out (by omega)).mono ?_
        rintro e w7 ⟨v7, rfl, hown7, hb7⟩
        rw [popL_of HM1] at hown7
        rw [qOf_of HM1, hpos6]
        clear hpos6
        have y0 := cell_later hb7 y0
        have y1 := cell_later hb7 y1
        have n0 := cell_later hb7 n0
        have n1 := cell_later hb7 n1
        have HB7 : Hid (Below w.heap.size w w7) := below_next HB6.out hb7 HB6.out.size
        have HI7 : Hid (Its w7 v7 zs.tail) := (Its.own hown7).1
        have lx7 : w.heap.size < w7.heap.size := World.block_lt_of_cell? _ _ y0
        have ln7 : w3.heap.size < w7.heap.size := World.block_lt_of_cell? _ _ n0
        clear hown7 hb7 HB6 HI6 HM1 hl6
        unfold itV
        generalize hy : atI zs 0 = y at *
        have HY : Hid (atI zs 0 = y) := hy
        clear hy
        have b7 : Below w7.heap.size w7 (w7.alloc (.cells #[.int .i64 y.1, .int .i64 y.2] 24)) := (Below.refl _ _).alloc (Nat.le_refl _) _
        have HB8 : Hid (Below w.heap.size w (w7.alloc (.cells #[.int .i64 y.1, .int .i64 y.2] 24))) := below_next HB7.out b7 HB7.out.size
        have HI8 : Hid (Its (w7.alloc (.cells #[.int .i64 y.1, .int .i64 y.2] 24)) v7 zs.tail) := HI7.out.later b7
        clear b7 HB7 HI7
        have done : ahB xs (kx, ix) = true → y = (kx, ix) ∧ zs.tail = xs := fun ha => by
          have e := HA1.out ha
          exact ⟨by rw [← HY.out, e]; rfl, by rw [e]; rfl⟩
        have DN : Hid (ahB xs (kx, ix) = true → y = (kx, ix) ∧ zs.tail = xs) := done
        clear done HA1
        have z' : ((xs.length : Int) == 0) = false := by simpa using show ¬ ((xs.length : Int) = 0) by omega
        by_cases c1 : kx < mk
        · have c1' : decide (kx < mk) = true := decide_eq_true c1
          have hah : ahB xs (kx, ix) = true := by rw [HAE.out]; exact ahd_iff.2 (by omega)
          obtain ⟨e1, e2⟩ := DN.out hah
          subst e1
          rw [e2] at HI8
          clear e2 hah HA0 HAE DN HY
          go_wp2_with fail
          refine (same_eq xs v7 _ _ HI8.out (HI.out.later HB8.out) (by omega)).mono ?_
          rintro e w9 ⟨rfl, hb9⟩
          have HB9 : Hid (Below w.heap.size w w9) := below_next HB8.out hb9 HB8.out.size
          clear hb9 HB8
          go_wp2_with fail
          go_ret
          exact ⟨rfl, HB9.out⟩
        · have c1' : decide (kx < mk) = false := decide_eq_false c1
          by_cases c2 : kx = mk
          · subst c2
            by_cases c3 : ix < mi
            · have c3' : decide (ix < mi) = true := decide_eq_true c3
              have hah : ahB xs (kx, ix) = true := by rw [HAE.out]; exact ahd_iff.2 (by omega)
              obtain ⟨e1, e2⟩ := DN.out hah
              subst e1
              rw [e2] at HI8
              clear e2 hah HA0 HAE DN HY
              go_wp2_with fail
              refine (same_eq xs v7 _ _ HI8.out (HI.out.later HB8.out) (by omega)).mono ?_
              rintro e w9 ⟨rfl, hb9⟩
              have HB9 : Hid (Below w.heap.size w w9) := below_next HB8.out hb9 HB8.out.size
              clear hb9 HB8
              go_wp2_with fail
              go_ret
              exact ⟨rfl, HB9.out⟩
            · have c3' : decide (ix < mi) = false := decide_eq_false c3
              have hah : ahB xs (kx, ix) = false := by rw [HAE.out]; exact ahd_not.2 (by omega)
              have hyx : ¬ (y = (kx, ix)) := HA0.out hah
              have hyx' : itB y.1 y.2 kx ix = false := decide_eq_false hyx
              clear hah HA0 HAE DN HY hyx
              go_wp2_with fail
              go_ret
              exact ⟨rfl, HB8.out⟩
          · have c2' : (kx == mk) = false := by simpa using c2
            have hah : ahB xs (kx, ix) = false := by rw [HAE.out]; exact ahd_not.2 (by omega)
            have hyx : ¬ (y = (kx, ix)) := HA0.out hah
            have hyx' : itB y.1 y.2 kx ix = false := decide_eq_false hyx
            clear hah HA0 HAE DN HY hyx
            go_wp2_with fail
            go_ret
            exact ⟨rfl, HB8.out⟩
end Go.Proofs.Ytpefigaaeiaioaa
