/- Walks of the document's own: ahead, at, May. -/
import Derived.Test.YtpefigaaeiaioaaK1
import Derived.Deep.RegionHeld3
namespace Go.Proofs.Ytpefigaaeiaioaa
open Go.RowKit
set_option linter.unusedVariables false

set_option maxHeartbeats 1000000 in
set_option maxRecDepth 100000 in
theorem ahead_any (a b c d : Int) (w : World) :
    Calls Try.prog 40 #[.agg #[.int .i64 a, .int .i64 b], .agg #[.int .i64 c, .int .i64 d]] w fun e w' => e = .returned (.bool (ahd (a, b) (c, d))) ∧ Below w.heap.size w w' := by
  have hb : Below w.heap.size w ((w.alloc (.cells #[.int .i64 a, .int .i64 b] 24)).alloc (.cells #[.int .i64 c, .int .i64 d] 24)) := ((Below.refl _ _).alloc (Nat.le_refl _) _).alloc (by simp) _
  by_cases c1 : a < c
  · have c1' : decide (a < c) = true := decide_eq_true c1
    have HA : Hid (ahd (a, b) (c, d) = true) := ahd_iff.2 (Or.inl c1)
    go_enter Try.func40, Try.ntmps40
    go_wp2
    go_ret
    exact ⟨ret_b HA.out.symm, hb⟩
  · have c1' : decide (a < c) = false := decide_eq_false c1
    by_cases c2 : a = c
    · subst c2
      have HA : Hid (ahd (a, b) (a, d) = decide (b < d)) := by show _ = _; unfold ahd; simp
      go_enter Try.func40, Try.ntmps40
      go_wp2
      go_ret
      exact ⟨ret_b HA.out.symm, hb⟩
    · have c2' : (a == c) = false := by simpa using c2
      have HA : Hid (ahd (a, b) (c, d) = false) := by show _ = _; rw [ahd_not]; simp; omega
      go_enter Try.func40, Try.ntmps40
      go_wp2
      go_ret
      exact ⟨ret_b HA.out.symm, hb⟩

set_option maxHeartbeats 1000000 in
set_option maxRecDepth 100000 in
theorem rat_any (xs : List (Int × Int)) (v : Value) (id : Int) (w : World) (h : Its w v xs) (hx : xs.length ≤ 1000) :
    Calls Try.prog 31 #[v, .int .i64 id] w fun e w' => e = .returned (.int .i64 (fnd xs id)) ∧ Below w.heap.size w w' := by
  obtain ⟨a, cap, rfl, h1, h2, h0, h3⟩ := h
  go_enter Try.func31, Try.ntmps31
  go_wp2_with fail
  go_loopw [5] (fun i wr => ∃ (j : Nat), j ≤ xs.length ∧ i = .int .i64 j ∧ Below w.heap.size w wr ∧ Hid (∀ k, k < j → (atI xs k).2 ≠ id)) (fun i _ => ((xs.length : Int) - intOf i).toNat)
  case atStart => exact ⟨0, by omega, rfl, Below.refl _ _, fun k hk => by omega⟩
  case round =>
    obtain ⟨j, hj, rfl, hbw, HK⟩ := hrel
    by_cases hlt : (j : Int) < xs.length
    · obtain ⟨b, o, rfl, h4⟩ := h3 (by intro e; rw [e, List.length_nil] at hlt; omega)
      have c1 := cell_later hbw (h4 j (by omega)).2
      clear h4 h3
      generalize hxj : atI xs j = x at *
      have HX : Hid (atI xs j = x) := hxj
      clear hxj
      by_cases ce : x.2 = id
      · have HF : Hid (fnd xs id = j) := fnd_some (by omega) (by rw [HX.out]; exact ce) HK.out
        go_wp2_with fail
        go_ret
        exact ⟨ret_i HF.out.symm, hbw⟩
      · go_wp2_with fail
        go_roundw
        case rel =>
          refine ⟨j + 1, by omega, by go_num, hbw, fun k hk => ?_⟩
          rcases (show k < j ∨ k = j by omega) with h | rfl
          · exact HK.out k h
          · rw [HX.out]; exact ce
        case measure => simp [intOf]; omega
    · obtain rfl : j = xs.length := by omega
      have HF : Hid (fnd xs id = -1) := fnd_none HK.out
      go_wp2_with fail
      go_ret
      exact ⟨ret_i HF.out.symm, hbw⟩

theorem may_no {xs : List (Int × Int)} {i k : Nat} (hi : i < xs.length) (hk : k < i) (e : (atI xs k).2 = (atI xs i).2) : mayB xs = false := by
  cases h : mayB xs
  · rfl
  · exact absurd e (may_ids h hi hk)
theorem may_no2 {xs : List (Int × Int)} {i : Nat} (hi : i + 1 < xs.length) (e : ahd (atI xs (i + 1)) (atI xs i) = true) : mayB xs = false := by
  cases h : mayB xs
  · rfl
  · have h1 : ahd (atI xs (i + 1)) (atI xs i) = false := of_decide_eq_true (srtd_adj (may_srtd h)) (i + 1) hi (by omega)
    rw [h1] at e; exact absurd e (by simp)
theorem may_yes {xs : List (Int × Int)} (h : ∀ i, i < xs.length → (∀ k, k < i → (atI xs k).2 ≠ (atI xs i).2) ∧ (0 < i → ahd (atI xs i) (atI xs (i - 1)) = false)) : mayB xs = decide (xs.length ≤ 40) := by
  unfold mayB
  have h1 : difB xs = true := decide_eq_true fun i hi => by
    rw [fnd_none fun k hk => ?_]; · omega
    have hk' : k < i := by simp at hk; omega
    rw [atI_take hk']; exact (h i hi).1 k hk'
  have h2 : ordB xs = true := decide_eq_true fun i hi i0 => (h i hi).2 i0
  rw [h1, h2]; simp

set_option maxHeartbeats 1000000 in
set_option maxRecDepth 100000 in
theorem rmay_any (xs : List (Int × Int)) (v : Value) (w : World) (h : Its w v xs) (hx : xs.length ≤ 1000) :
    Calls Try.prog 23 #[v] w fun e w' => e = .returned (.bool (mayB xs)) ∧ Below w.heap.size w w' := by
  obtain ⟨a, cap, rfl, h1, h2, h0, h3⟩ := h
  go_enter Try.func23, Try.ntmps23
  go_wp2_with fail
  go_loopw [3] (fun i wr => ∃ (j : Nat), j ≤ xs.length ∧ i = .int .i64 j ∧ Below w.heap.size w wr ∧ Hid (∀ i, i < j → (∀ k, k < i → (atI xs k).2 ≠ (atI xs i).2) ∧ (0 < i → ahd (atI xs i) (atI xs (i - 1)) = false))) (fun i _ => ((xs.length : Int) - intOf i).toNat)
  case atStart => exact ⟨0, by omega, rfl, Below.refl _ _, fun k hk => by omega⟩
  case round =>
    obtain ⟨j, hj, rfl, hbw, HK⟩ := hrel
    by_cases hlt : (j : Int) < xs.length
    · obtain ⟨b, o, rfl, h4⟩ := h3 (by intro e; rw [e, List.length_nil] at hlt; omega)
      have e4 : ∀ i, i < xs.length → wr.cell? ⟨b, o + i * 2, none⟩ = some (.int .i64 (atI xs i).1) ∧ wr.cell? ⟨b, o + i * 2 + 1, none⟩ = some (.int .i64 (atI xs i).2) := fun i hi => ⟨cell_later hbw (h4 i hi).1, cell_later hbw (h4 i hi).2⟩
      clear h4 h3
      have HE : Hid (∀ i, i < xs.length → wr.cell? ⟨b, o + i * 2, none⟩ = some (.int .i64 (atI xs i).1) ∧ wr.cell? ⟨b, o + i * 2 + 1, none⟩ = some (.int .i64 (atI xs i).2)) := e4
      have hbw0 := hbw
      clear e4
      go_wp2_with fail
      go_loopw [4] (fun i wq => ∃ (k : Nat), k ≤ j ∧ i = .int .i64 k ∧ Below wr.heap.size wr wq ∧ Hid (∀ m, m < k → (atI xs m).2 ≠ (atI xs j).2)) (fun i _ => ((j : Int) - intOf i).toNat)
      case atStart => exact ⟨0, by omega, rfl, Below.refl _ _, fun k hk => by omega⟩
      case round =>
        obtain ⟨k, hk, rfl, hbq, HM⟩ := hrel
        by_cases hlk : (k : Int) < j
        · have c1 := cell_later hbq (HE.out k (by omega)).2
          have d1 := cell_later hbq (HE.out j (by omega)).2
          have HN : Hid ((atI xs k).2 = (atI xs j).2 → mayB xs = false) := fun e => may_no (by omega) (by omega) e
          generalize hxk : (atI xs k).2 = ik at *
          generalize hxj : (atI xs j).2 = ij at *
          have HX : Hid ((atI xs k).2 = ik ∧ (atI xs j).2 = ij) := ⟨hxk, hxj⟩
          clear hxk hxj
          by_cases ce : ik = ij
          · have HF : Hid (mayB xs = false) := HN.out ce
            subst ce
            go_wp2_with fail
            go_region
            all_goals
              go_wp2_with fail
              go_ret
              exact ⟨ret_b HF.out.symm, below_next hbw0 hbq.drew hbw0.size⟩
          · have ce' : (ik == ij) = false := by simpa using ce
            go_wp2_with fail
            go_region
            all_goals
              go_wp2_with fail
              go_roundw
              case rel =>
                refine ⟨k + 1, by omega, by go_num, hbq.drew, fun m hm => ?_⟩
                rcases (show m < k ∨ m = k by omega) with h | rfl
                · have := HM.out m h; exact this
                · rw [HX.out.1]; exact ce
              case measure => simp [intOf]; omega
        · have HM' : Hid (∀ m, m < j → (atI xs m).2 ≠ (atI xs j).2) := fun m hm => HM.out m (by omega)
          clear HM
          rcases Nat.eq_zero_or_pos j with hj0 | hj0
          · have HS : Hid (∀ i, i < j + 1 → (∀ k, k < i → (atI xs k).2 ≠ (atI xs i).2) ∧ (0 < i → ahd (atI xs i) (atI xs (i - 1)) = false)) := fun i hi => ⟨fun k hk => by omega, fun i0 => by omega⟩
            have g3 : decide ((j : Int) > 0) = false := decide_eq_false (by omega)
            have g3' : decide (0 < j) = false := decide_eq_false (by omega)
            clear hj0
            go_wp2_with fail
            go_quiet (fail)
            all_goals
              go_wp2_with fail
              go_roundw
              case rel => exact ⟨j + 1, by omega, by go_num, below_next hbw0 (drawn hbq _) hbw0.size, HS.out⟩
              case measure => simp [intOf]; omega
          · obtain ⟨t, rfl⟩ : ∃ t, j = t + 1 := ⟨j - 1, by omega⟩
            have c0 := cell_later hbq (HE.out (t + 1) (by omega)).1
            have c1 := cell_later hbq (HE.out (t + 1) (by omega)).2
            have d0 := cell_later hbq (HE.out t (by omega)).1
            have d1 := cell_later hbq (HE.out t (by omega)).2
            have g3 : decide (((t + 1 : Nat) : Int) > 0) = true := decide_eq_true (by omega)
            have HS : Hid (ahd (atI xs (t + 1)) (atI xs t) = false → ∀ i, i < t + 1 + 1 → (∀ k, k < i → (atI xs k).2 ≠ (atI xs i).2) ∧ (0 < i → ahd (atI xs i) (atI xs (i - 1)) = false)) := fun hf i hi => by
              rcases (show i < t + 1 ∨ i = t + 1 by omega) with h | rfl
              · exact HK.out i h
              · exact ⟨HM'.out, fun _ => hf⟩
            have HN : Hid (ahd (atI xs (t + 1)) (atI xs t) = true → mayB xs = false) := may_no2 (by omega)
            obtain ⟨f, hf⟩ : ∃ f, ahd (atI xs (t + 1)) (atI xs t) = f := ⟨_, rfl⟩
            have HF : Hid (ahd (atI xs (t + 1)) (atI xs t) = f) := hf
            have hcall : ∀ W : World, Calls Try.prog 40 #[.agg #[.int .i64 (atI xs (t + 1)).1, .int .i64 (atI xs (t + 1)).2], .agg #[.int .i64 (atI xs t).1, .int .i64 (atI xs t).2]] W fun e w' => e = .returned (.bool f) ∧ Below W.heap.size W w' := fun W => by
              have := ahead_any (atI xs (t + 1)).1 (atI xs (t + 1)).2 (atI xs t).1 (atI xs t).2 W
              rwa [show ahd ((atI xs (t + 1)).1, (atI xs (t + 1)).2) ((atI xs t).1, (atI xs t).2) = f from hf] at this
            clear hf hj0
            generalize atI xs (t + 1) = y at *
            generalize atI xs t = z at *
            have hs : w.heap.size ≤ wr.heap.size := Nat.le_trans hbw0.size hbq.size
            have HB : Hid (Below w.heap.size w wr) := below_next hbw0 hbq hbw0.size
            clear hbq
            have q1 : (0 : Int) ≤ (t : Int) + 1 := by omega
            have q2 : (t : Int) + 1 < xs.length := by omega
            have q3 : (0 : Int) ≤ (t : Int) := by omega
            have q4 : (t : Int) < xs.length := by omega
            have q5 : (0 : Int) ≤ ((t + 1 : Nat) : Int) := by omega
            have q6 : ((t + 1 : Nat) : Int) < xs.length := by omega
            have q7 : IntKind.i64.wrap (t : Int) = (t : Int) := by rw [IntKind.wrap_i64]; omega
            cases f
            · go_wp2_with fail
              go_region_held3 (fun w' => w'.cell? ⟨b, o + (t + 1) * 2, none⟩ = some (.int .i64 y.1) ∧ w'.cell? ⟨b, o + (t + 1) * 2 + 1, none⟩ = some (.int .i64 y.2) ∧ w'.cell? ⟨b, o + t * 2, none⟩ = some (.int .i64 z.1) ∧ w'.cell? ⟨b, o + t * 2 + 1, none⟩ = some (.int .i64 z.2)) (first | exact ⟨c0, c1, d0, d1⟩ | exact ⟨cell_later hb2 c0, cell_later hb2 c1, cell_later hb2 d0, cell_later hb2 d1⟩) (first | (go_at_call 40; refine (hcall _).mono ?_; rintro e w2 ⟨rfl, hb2⟩))
              all_goals
                go_wp2_with fail
                go_roundw
                case rel => exact ⟨t + 1 + 1, by omega, by go_num, below_next HB.out.drew hb2 hs, HS.out HF.out⟩
                case measure => simp [intOf]; omega
            · have HF2 : Hid (mayB xs = false) := HN.out HF.out
              go_wp2_with fail
              go_region_held3 (fun w' => w'.cell? ⟨b, o + (t + 1) * 2, none⟩ = some (.int .i64 y.1) ∧ w'.cell? ⟨b, o + (t + 1) * 2 + 1, none⟩ = some (.int .i64 y.2) ∧ w'.cell? ⟨b, o + t * 2, none⟩ = some (.int .i64 z.1) ∧ w'.cell? ⟨b, o + t * 2 + 1, none⟩ = some (.int .i64 z.2)) (first | exact ⟨c0, c1, d0, d1⟩ | exact ⟨cell_later hb2 c0, cell_later hb2 c1, cell_later hb2 d0, cell_later hb2 d1⟩) (first | (go_at_call 40; refine (hcall _).mono ?_; rintro e w2 ⟨rfl, hb2⟩))
              all_goals
                go_wp2_with fail
                go_ret
                exact ⟨ret_b HF2.out.symm, below_next HB.out.drew hb2 hs⟩
    · obtain rfl : j = xs.length := by omega
      have HF : Hid (mayB xs = decide (xs.length ≤ 40)) := may_yes HK.out
      go_wp2_with fail
      go_ret
      exact ⟨ret_b (by rw [HF.out]; exact decide_eq_decide.2 (by omega)), hbw⟩
end Go.Proofs.Ytpefigaaeiaioaa
