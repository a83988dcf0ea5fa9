/- The statement on what is pushed and popped. -/
import Derived.Test.YtpefigaaeiaioaaK5
import Derived.Test.YtpefigaaeiaioaaV3
namespace Go.Proofs.Ytpefigaaeiaioaa
open Go.RowKit
set_option linter.unusedVariables false

/-- Items of some keys, each of its own ID; and in their order. -/
def kIt (ks : List Int) (j : Nat) : List (Int × Int) := (List.range j).map fun (i : Nat) => (ks.getD i 0, (i : Int))
def kSrt (ks : List Int) (j : Nat) : List (Int × Int) := srt (kIt ks j)
theorem kIt_len (ks : List Int) (j : Nat) : (kIt ks j).length = j := by simp [kIt]
theorem kSrt_len (ks : List Int) (j : Nat) : (kSrt ks j).length = j := by unfold kSrt; rw [srt_len, kIt_len]
theorem kIt_mem {ks : List Int} {j : Nat} {x : Int × Int} (h : x ∈ kIt ks j) : ∃ m, m < j ∧ x = (ks.getD m 0, (m : Int)) := by
  obtain ⟨m, hm, e⟩ := List.mem_map.1 h
  exact ⟨m, List.mem_range.1 hm, e.symm⟩
theorem kSrt_mem {ks : List Int} {j : Nat} {x : Int × Int} (h : x ∈ kSrt ks j) : ∃ m, m < j ∧ x = (ks.getD m 0, (m : Int)) := kIt_mem ((srt_perm _).mem_iff.1 h)
theorem kIt_nodup (ks : List Int) (j : Nat) : ((kIt ks j).map (·.2)).Nodup := by
  refine ids_iff.1 fun a b ha hb => ?_
  rw [kIt_len] at ha
  have e : ∀ m, m < j → atI (kIt ks j) m = (ks.getD m 0, (m : Int)) := fun m hm => by simp [atI, kIt, List.getD, hm]
  rw [e a ha, e b (by omega)]
  simp; omega
theorem kSrt_may {ks : List Int} {j : Nat} (h : j ≤ 40) : mayB (kSrt ks j) = true := by
  refine may_iff.2 ⟨by rw [kSrt_len]; exact h, srt_srtd _, ?_⟩
  exact ((srt_perm (kIt ks j)).map (fun z => z.2)).nodup_iff.2 (kIt_nodup ks j)
theorem kSrt_can {ks : List Int} {j : Nat} (h : j < 40) : canP (kSrt ks j) (ks.getD j 0, (j : Int)) = true := by
  refine canP_iff.2 ⟨kSrt_may (by omega), by rw [kSrt_len]; omega, fun y hy => ?_⟩
  obtain ⟨m, hm, rfl⟩ := kSrt_mem hy
  simp; omega
theorem kSrt_step {ks : List Int} {j : Nat} (h : j < 40) : pushL (kSrt ks j) (ks.getD j 0, (j : Int)) = kSrt ks (j + 1) := by
  unfold pushL; rw [if_pos (kSrt_can h)]
  refine srt_congr ?_
  have : kIt ks (j + 1) = kIt ks j ++ [(ks.getD j 0, (j : Int))] := by unfold kIt; rw [List.range_succ, List.map_append]; rfl
  rw [this]; exact (srt_perm _).append_right _
theorem drop_may {xs : List (Int × Int)} (j : Nat) (h : mayB xs = true) : mayB (xs.drop j) = true := by
  obtain ⟨h1, h2, h3⟩ := may_iff.1 h
  exact may_iff.2 ⟨by simp; omega, List.Pairwise.sublist (List.drop_sublist j xs) h2, List.Pairwise.sublist ((List.drop_sublist j xs).map _) h3⟩
theorem drop_pop {xs : List (Int × Int)} (j : Nat) (h : mayB xs = true) : popL (xs.drop j) = xs.drop (j + 1) := by
  rw [popL_of (drop_may j h), List.tail_drop]
theorem drop_at (xs : List (Int × Int)) (j : Nat) : atI (xs.drop j) 0 = atI xs j := by simp [atI, List.getD]
/-- What stands ahead of an item in its order is ahead of it. -/
theorem may_step {xs : List (Int × Int)} {j : Nat} (h : mayB xs = true) (hj : j + 1 < xs.length) : (atI xs j).1 < (atI xs (j + 1)).1 ∨ ((atI xs j).1 = (atI xs (j + 1)).1 ∧ (atI xs j).2 < (atI xs (j + 1)).2) := by
  have h1 : ile (atI xs j) (atI xs (j + 1)) := of_decide_eq_true (srtd_adj (may_srtd h)) (j + 1) hj (by omega)
  have h2 := may_ids h hj (show j < j + 1 by omega)
  rw [ile_iff] at h1; omega
/-- An item that lies in a block of its own. -/
def Lies (w : World) (b : Nat) (x y : Int) : Prop := w.cell? ⟨b, 0, none⟩ = some (.int .i64 x) ∧ w.cell? ⟨b, 1, none⟩ = some (.int .i64 y) ∧ w.frozen? ⟨b, 0, none⟩ = false ∧ w.frozen? ⟨b, 1, none⟩ = false
theorem Lies.new (w : World) (x y : Int) : Lies (w.alloc (.cells #[.int .i64 x, .int .i64 y] 24)) w.heap.size x y := by simp [Lies]
theorem Lies.later {w w' : World} {b : Nat} {x y : Int} (h : Lies w b x y) (hb : Below w.heap.size w w') : Lies w' b x y := by
  obtain ⟨h0, h1, h2, h3⟩ := h
  have hl := World.block_lt_of_cell? _ _ h0
  exact ⟨cell_later hb h0, cell_later hb h1, (hb.frozen (p := ⟨b, 0, none⟩) hl).trans h2, (hb.frozen (p := ⟨b, 1, none⟩) hl).trans h3⟩
theorem Lies.put {w : World} {b : Nat} {x y : Int} (h : Lies w b x y) (x' y' : Int) : Lies ((w.setCell ⟨b, 0, none⟩ (.int .i64 x')).setCell ⟨b, 1, none⟩ (.int .i64 y')) b x' y' := by
  obtain ⟨h0, h1, h2, h3⟩ := h
  refine ⟨?_, ?_, by simpa using h2, by simpa using h3⟩
  · rw [World.cell?_setCell_other _ _ _ _ (by simp)]; exact World.cell?_setCell_same _ _ _ h0
  · exact World.cell?_setCell_same (u := .int .i64 y) _ _ _ (by rw [World.cell?_setCell_other _ _ _ _ (by simp)]; exact h1)
theorem Its.set {w : World} {v : Value} {xs : List (Int × Int)} (h : Its w v xs) {c k : Nat} (hc : xs ≠ [] → v.ownBlock ≠ some c) (u : Value) : Its (w.setCell ⟨c, k, none⟩ u) v xs := by
  obtain ⟨a, cap, rfl, h1, h2, h0, h3⟩ := h
  refine ⟨a, cap, rfl, h1, h2, h0, fun hx => ?_⟩
  obtain ⟨b, o, rfl, h4⟩ := h3 hx
  have hbc : c ≠ b := fun e => hc hx (by rw [e]; rfl)
  refine ⟨b, o, rfl, fun i hi => ?_⟩
  rw [World.cell?_setCell_other _ _ _ _ (fun h => hbc (congrArg Addr.block h)), World.cell?_setCell_other _ _ _ _ (fun h => hbc (congrArg Addr.block h))]
  exact h4 i hi
theorem Its.lt {w : World} {v : Value} {xs : List (Int × Int)} (h : Its w v xs) : xs ≠ [] → v.ownBlock ≠ some w.heap.size := by
  obtain ⟨a, cap, rfl, h1, h2, h0, h3⟩ := h
  intro hx e
  obtain ⟨b, o, rfl, h4⟩ := h3 hx
  have hp : 0 < xs.length := List.length_pos_iff.2 hx
  have := World.block_lt_of_cell? _ _ (h4 0 hp).1
  simp [Value.ownBlock] at e this
  omega

set_option maxHeartbeats 4000000 in
set_option maxRecDepth 100000 in
theorem law_pops (ks : List Int) (v : Value) (w : World) (h : Nums w v ks) :
    Calls Try.prog 5 #[v] w fun e w' => e = .returned (.bool true) ∧ Below w.heap.size w w' := by
  obtain ⟨a, cap, rfl, h1, h2, h3⟩ := h
  go_enter Try.func5, Try.ntmps5
  go_wp2_with fail
  refine (awake_any _).mono ?_
  rintro e w1 ⟨rfl, hb1⟩
  have HB1 : Hid (Below w.heap.size w w1) := hb1
  clear hb1
  by_cases cl : (ks.length : Int) > 40
  · have cl' : decide ((ks.length : Int) > 40) = true := decide_eq_true cl
    go_wp2_with fail
    go_ret
    exact ⟨rfl, HB1.out⟩
  · have cl' : decide ((ks.length : Int) > 40) = false := decide_eq_false cl
    go_wp2_with fail
    go_loopw [4, 5] (fun l i wr => ∃ (j : Nat), j ≤ ks.length ∧ i = .int .i64 j ∧ Hid (Its wr l (kSrt ks j)) ∧ Below w.heap.size w wr) (fun _ i _ => ((ks.length : Int) - intOf i).toNat)
    case atStart => exact ⟨0, by omega, rfl, ⟨none, 0, rfl, Nat.le_refl _, by decide, fun _ => rfl, fun h => absurd rfl h⟩, HB1.out⟩
    case round =>
      clear HB1
      obtain ⟨j, hj, rfl, HI, hbw⟩ := hrel
      have s1 := hbw.size
      by_cases hlt : (j : Int) < ks.length
      · obtain ⟨b, o, rfl, h4⟩ := h3 (by intro e; rw [e, List.length_nil] at hlt; omega)
        have c0 := cell_later hbw (h4 j (by omega))
        clear h4 h3
        have HC : Hid (canP (kSrt ks j) (ks.getD j 0, (j : Int)) = true ∧ pushL (kSrt ks j) (ks.getD j 0, (j : Int)) = kSrt ks (j + 1) ∧ mayB (kSrt ks (j + 1)) = true) := ⟨kSrt_can (by omega), kSrt_step (by omega), kSrt_may (by omega)⟩
        generalize ks.getD j 0 = q at *
        have hlk := kSrt_len ks j
        have hlk1 := kSrt_len ks (j + 1)
        go_wp2_with fail
        refine (push_any (kSrt ks j) _ (q, (j : Int)) _ HI.out (by omega)).mono ?_
        rintro e w2 ⟨v2, rfl, hown2, hb2⟩
        rw [HC.out.1]
        rw [HC.out.2.1] at hown2
        have H2 : Hid (Its w2 v2 (kSrt ks (j + 1)) ∧ Below w.heap.size w w2) := ⟨(Its.own hown2).1, below_next hbw hb2 s1⟩
        obtain ⟨a2, cap2, rfl⟩ := H2.out.1.form
        rw [hlk1] at *
        clear hown2 hb2 hbw HI
        go_wp2_with fail
        refine (may_any (kSrt ks (j + 1)) _ _ H2.out.1).mono ?_
        rintro e w3 ⟨rfl, hb3⟩
        rw [HC.out.2.2]
        have H3 : Hid (Its w3 (.slice a2 (j + 1) cap2) (kSrt ks (j + 1)) ∧ Below w.heap.size w w3) := ⟨H2.out.1.later hb3, below_next H2.out.2 hb3 H2.out.2.size⟩
        clear hb3 H2 hlk1 hlk
        go_wp2_with fail
        go_roundw
        case rel => exact ⟨j + 1, by omega, by go_num, H3.out.1, H3.out.2⟩
        case measure => simp [intOf]; omega
      · obtain rfl : j = ks.length := by omega
        have hmz := kSrt_may (ks := ks) (show ks.length ≤ 40 by omega)
        have hmem : ∀ x ∈ kSrt ks ks.length, ∃ m, m < ks.length ∧ x = (ks.getD m 0, (m : Int)) := fun x hx => kSrt_mem hx
        have hzl := kSrt_len ks ks.length
        generalize kSrt ks ks.length = zs at *
        have HZ : Hid (mayB zs = true ∧ (∀ x ∈ zs, ∃ m, m < ks.length ∧ x = (ks.getD m 0, (m : Int))) ∧ zs.length = ks.length) := ⟨hmz, hmem, hzl⟩
        clear hmz hmem hzl hj
        have b3 : Below wr.heap.size wr (wr.alloc (.cells #[.int .i64 0, .int .i64 0] 24)) := (Below.refl _ _).alloc (Nat.le_refl _) _
        have HB3 : Hid (Below w.heap.size w (wr.alloc (.cells #[.int .i64 0, .int .i64 0] 24))) := below_next hbw b3 s1
        have HI3 : Hid (Its (wr.alloc (.cells #[.int .i64 0, .int .i64 0] 24)) u4 (zs.drop 0) ∧ (zs.drop 0 ≠ [] → u4.ownBlock ≠ some wr.heap.size)) := ⟨HI.out.later b3, HI.out.lt⟩
        have s0 := hbw.size
        have hbw0 := hbw
        generalize hL : wr.heap.size = L at *
        clear b3 HI
        go_wp2_with fail
        go_loopw [4, 9] (fun l i wq => ∃ (j : Nat), j ≤ ks.length ∧ i = .int .i64 j ∧ Hid (Its wq l (zs.drop j) ∧ (zs.drop j ≠ [] → l.ownBlock ≠ some L)) ∧ (∃ p q, Lies wq L p q ∧ Hid (0 < j → (p, q) = atI zs (j - 1))) ∧ Below w.heap.size w wq) (fun _ i _ => ((ks.length : Int) - intOf i).toNat)
        case atStart => exact ⟨0, by omega, rfl, HI3.out, ⟨0, 0, by rw [← hL]; exact Lies.new _ _ _, fun h => by omega⟩, HB3.out⟩
        case round =>
          clear hbw0
          obtain ⟨j, hj, rfl, HI, ⟨p, q, hlie, HP⟩, hbw⟩ := hrel
          have s1 := hbw.size
          have hLl : L < wr.heap.size := World.block_lt_of_cell? _ _ hlie.1
          by_cases hlt : (j : Int) < ks.length
          · obtain ⟨b, o, rfl, h4⟩ := h3 (by intro e; rw [e, List.length_nil] at hlt; omega)
            have hjz : j < zs.length := by rw [HZ.out.2.2]; omega
            obtain ⟨m, hm, hx⟩ := HZ.out.2.1 _ (atI_mem hjz)
            have HX : Hid ((ks.getD m 0, (m : Int)) = atI zs j) := hx.symm
            have hdl : (zs.drop j).length ≤ 40 := by simp [HZ.out.2.2]; omega
            have hstep : 0 < j → p < ks.getD m 0 ∨ (p = ks.getD m 0 ∧ q < (m : Int)) := fun h0 => by
              obtain ⟨k, rfl⟩ : ∃ k, j = k + 1 := ⟨j - 1, by omega⟩
              have := may_step HZ.out.1 hjz
              rw [hx] at this
              have e := HP.out (by omega)
              rw [show k + 1 - 1 = k from rfl] at e
              rw [← e] at this; exact this
            clear hx hjz
            have ck := h4 m hm
            clear h4 h3
            generalize ks.getD m 0 = kq at *
            go_wp2_with fail
            refine (pop_any (zs.drop j) _ _ HI.out.1 (by omega)).mono ?_
            rintro e w4 ⟨v4, rfl, hown4, hb4⟩
            rw [drop_pop j HZ.out.1] at hown4
            rw [qOf_of (drop_may j HZ.out.1), drop_at, ← HX.out, decide_eq_true (show 0 < (zs.drop j).length by simp [HZ.out.2.2]; omega)]
            have hb45 : Below w4.heap.size w4 (w4.alloc (.cells #[.int .i64 kq, .int .i64 (m : Int)] 24)) := (Below.refl _ _).alloc (Nat.le_refl _) _
            have HB4 := below_next hbw hb4 s1
            have HB5 : Hid (Below w.heap.size w (w4.alloc (.cells #[.int .i64 kq, .int .i64 (m : Int)] 24))) := below_next HB4 hb45 HB4.size
            have hl5 := (hlie.later hb4).later hb45
            obtain ⟨l0, l1, l2, l3⟩ := id hl5
            have hk5 := cell_later HB5.out ck
            have H5 : Hid (Its (w4.alloc (.cells #[.int .i64 kq, .int .i64 (m : Int)] 24)) v4 (zs.drop (j + 1)) ∧ (zs.drop (j + 1) ≠ [] → v4.ownBlock ≠ some L)) := ⟨(Its.own hown4).1.later hb45, fun _ e => by have := (hown4.lt _ e).1; omega⟩
            have hLw : w.heap.size ≤ L := s0
            have hL4 : L < w4.heap.size := Nat.lt_of_lt_of_le hLl hb4.size
            clear hown4 hb4 HI hb45 HB4 hlie ck hbw
            have x0 : (w4.alloc (.cells #[.int .i64 kq, .int .i64 (m : Int)] 24)).cell? ⟨w4.heap.size, 0, none⟩ = some (.int .i64 kq) := by simp
            have x1 : (w4.alloc (.cells #[.int .i64 kq, .int .i64 (m : Int)] 24)).cell? ⟨w4.heap.size, 1, none⟩ = some (.int .i64 (m : Int)) := by simp
            obtain ⟨w5, hw5⟩ : ∃ w5, w4.alloc (.cells #[.int .i64 kq, .int .i64 (m : Int)] 24) = w5 := ⟨_, rfl⟩
            rw [hw5] at x0 x1 H5 hk5 hl5 HB5 l0 l1 l2 l3
            have HW : Hid (w4.alloc (.cells #[.int .i64 kq, .int .i64 (m : Int)] 24) = w5) := hw5
            clear hw5
            unfold itV
            have g1 : decide ((m : Int) < 0) = false := decide_eq_false (by omega)
            have g2 : decide ((m : Int) ≥ ks.length) = false := decide_eq_false (by omega)
            have g2' : decide (ks.length ≤ m) = false := decide_eq_false (by omega)
            rcases Nat.eq_zero_or_pos j with hj0 | hj0
            · have g3 : decide ((j : Int) > 0) = false := decide_eq_false (by omega)
              have g3' : decide (0 < j) = false := decide_eq_false (by omega)
              clear hstep hj0
              go_wp2_with fail
              rw [HW.out]
              go_quiet (fail)
              all_goals
                go_wp2_with fail
                go_roundw
                case rel => exact ⟨j + 1, by omega, by go_num, ⟨((H5.out.1.later (drawn (Below.refl _ _) _)).set H5.out.2 _).set H5.out.2 _, H5.out.2⟩, ⟨_, _, (hl5.later (drawn (Below.refl _ _) _)).put _ _, fun _ => HX.out⟩, ((drawn HB5.out _).setCell hLw _).setCell hLw _⟩
                case measure => simp [intOf]; omega
            · have g3 : decide ((j : Int) > 0) = true := decide_eq_true (by omega)
              have hstep := hstep hj0
              have g4 : decide (kq < p) = false := decide_eq_false (by omega)
              by_cases c5 : kq = p
              · subst c5
                have g6 : decide ((m : Int) ≤ q) = false := decide_eq_false (by omega)
                clear hstep
                go_wp2_with fail
                rw [HW.out]
                go_quiet (fail)
                all_goals
                  go_wp2_with fail
                  go_roundw
                  case rel => exact ⟨j + 1, by omega, by go_num, ⟨((H5.out.1.later (drawn (Below.refl _ _) _)).set H5.out.2 _).set H5.out.2 _, H5.out.2⟩, ⟨_, _, (hl5.later (drawn (Below.refl _ _) _)).put _ _, fun _ => HX.out⟩, ((drawn HB5.out _).setCell hLw _).setCell hLw _⟩
                  case measure => simp [intOf]; omega
              · have g5 : (kq == p) = false := by simpa using c5
                clear hstep c5
                go_wp2_with fail
                rw [HW.out]
                go_quiet (fail)
                all_goals
                  go_wp2_with fail
                  go_roundw
                  case rel => exact ⟨j + 1, by omega, by go_num, ⟨((H5.out.1.later (drawn (Below.refl _ _) _)).set H5.out.2 _).set H5.out.2 _, H5.out.2⟩, ⟨_, _, (hl5.later (drawn (Below.refl _ _) _)).put _ _, fun _ => HX.out⟩, ((drawn HB5.out _).setCell hLw _).setCell hLw _⟩
                  case measure => simp [intOf]; omega
          · obtain rfl : j = ks.length := by omega
            have hnil : zs.drop ks.length = [] := by rw [← HZ.out.2.2]; exact List.drop_length
            rw [hnil] at HI
            obtain ⟨a6, cap6, rfl⟩ := HI.out.1.form
            go_wp2_with fail
            refine (pop_any [] _ _ HI.out.1 (by simp)).mono ?_
            rintro e w4 ⟨v4, rfl, hown4, hb4⟩
            rw [show qOf [] = [] from rfl, show atI [] 0 = (0, 0) from rfl, show decide (0 < ([] : List (Int × Int)).length) = false from rfl]
            have HB4 : Hid (Below w.heap.size w w4) := below_next hbw hb4 s1
            clear hown4 hb4 hbw
            unfold itV
            go_wp2_with fail
            go_ret
            exact ⟨rfl, HB4.out.alloc HB4.out.size _⟩
end Go.Proofs.Ytpefigaaeiaioaa
