/- Walks of package demand: May, Horizon. -/
import Derived.Test.YteibaiflljcghaaDoorD5
namespace Go.Proofs.YteibaiflljcghaaDoor
open Go.RowKit Go.Shelf

theorem lst9_succ (n : Nat) (g : Nat → Int) : lst7 (n + 1) g = lst7 n g ++ [g n] := by unfold lst7; rw [List.range_succ, List.map_append]; rfl
theorem un_bd {f : Fx} (h : knB f = true) : 1 ≤ atV f.sp f.p ∧ atV f.sp f.p ≤ 1048576 := by
  obtain ⟨hs, c0, c1, c2, p0, p1, x1, m0, m1, k1⟩ := kn_facts h
  exact at_pos hs p0 p1
theorem fit_uns {l : Nat} {f : Nat → Fx} (h : knAll l f = true) (hl : l ≤ 4) : fitB6 (lst7 l (uns f)) = decide (sm l (uns f) ≤ 983040) := by
  have hs : sumB (lst7 l (uns f)) = true := by
    unfold sumB
    rw [lst7_len, decide_eq_true (show l ≤ 1000 by omega), Bool.true_and, List.all_eq_true]
    intro u hu
    unfold lst7 at hu
    obtain ⟨i, hi, rfl⟩ := List.mem_map.1 hu
    have := un_bd (knAll_of h (List.mem_range.1 hi))
    unfold unB wiB uns
    exact decide_eq_true (by omega)
  unfold fitB6
  rw [hs, sum_yes hs, lst7_sum, Bool.true_and]

set_option maxHeartbeats 2000000 in
set_option maxRecDepth 100000 in
theorem may9_any (l : Nat) (f : Nat → Fx) (v : Value) (w : World) (h : Fxs w v l f) (hL : Lim w) :
    Calls Tryd.prog 11 #[v] w fun r w' => r = .returned (.bool (may9 l f)) ∧ Below w.heap.size w w' := by
  obtain ⟨a, cap, rfl, h1, h2, h0, h3⟩ := h
  have HLim : Hid (Lim w) := hL
  clear hL
  by_cases hl : (l : Int) > 4
  · have H : Hid (may9 l f = false) := may9_long (by omega)
    go_enter Tryd.func11, Tryd.ntmps11
    go_wp2
    go_ret
    exact ⟨ret_b H.out.symm, Below.refl _ _⟩
  · go_enter Tryd.func11, Tryd.ntmps11
    go_wp2_with fail
    go_loopw [3, 11] (fun s i wr => ∃ (j : Nat), j ≤ l ∧ i = .int .i64 j ∧ Hid (∀ i, i < j → knB (f i) = true) ∧ Hid (wr.ownsRow w.heap.size 3 1 s j (ivs (lst7 j (uns f)))) ∧ Below w.heap.size w wr) (fun _ i _ => ((l : Int) - intOf i).toNat)
    case atStart => exact ⟨0, by omega, rfl, fun i hi => by omega, World.ownsRow_nil _ _ _ _, Below.refl _ _⟩
    case round =>
      obtain ⟨j, hj, rfl, HK, HO, hbw⟩ := hrel
      by_cases hlt : (j : Int) < l
      · obtain ⟨bk, o, rfl, h4⟩ := h3 (by omega)
        have hrow := row_open (f := f j) (h4 j (by omega))
        clear h4 h3
        obtain ⟨⟨cj, tj, xj, mj, kj, ej, pj⟩, hf⟩ : ∃ y, f j = y := ⟨_, rfl⟩
        have HF : Hid (f j = ⟨cj, tj, xj, mj, kj, ej, pj⟩) := hf
        rw [hf] at hrow
        clear hf
        obtain ⟨k0, k1, k2, k3, k4, k5, k6⟩ := hrow
        simp only at k0 k1 k2 k3 k4 k5 k6
        have e0 := cell_later hbw k0
        have e1 := cell_later hbw k1
        have e2 := cell_later hbw k2
        have e3 := cell_later hbw k3
        have e4 := cell_later hbw k4
        have e5 := cell_later hbw k5
        have e6 := cell_later hbw k6
        have sb := World.block_lt_of_cell? _ _ k0
        clear k0 k1 k2 k3 k4 k5 k6
        have sw := hbw.size
        have hbox : Below w.heap.size w (wr.alloc (.cells #[.int .i64 cj, .int .i64 tj, .int .i64 xj, .int .i64 mj, .int .i64 kj, .int .i64 ej, .int .i64 pj] 26)) := hbw.alloc sw _
        have hS := Sev.new wr cj tj xj mj kj ej pj
        have HO1 : Hid (World.ownsRow (wr.alloc (.cells #[.int .i64 cj, .int .i64 tj, .int .i64 xj, .int .i64 mj, .int .i64 kj, .int .i64 ej, .int .i64 pj] 26)) w.heap.size 3 1 u3 j (ivs (lst7 j (uns f)))) := HO.out.alloc _
        cases hk : knB ⟨cj, tj, xj, mj, kj, ej, pj⟩ with
        | false =>
          have H1 : Hid (knB ⟨cj, tj, xj, mj, kj, ej, pj⟩ = false) := hk
          have H : Hid (may9 l f = false) := may9_kn (knAll_no (i := j) (by omega) (by rw [HF.out]; exact hk))
          clear hk
          go_wp2_with fail
          refine (kn_any cj tj xj mj kj ej pj _).mono ?_
          rintro r w2 ⟨rfl, hb2⟩
          rw [H1.out]
          go_wp2_with fail
          go_ret
          exact ⟨ret_b H.out.symm, hbox.trans (hb2.mono hbox.size)⟩
        | true =>
          have H1 : Hid (knB ⟨cj, tj, xj, mj, kj, ej, pj⟩ = true) := hk
          have HK2 : Hid (∀ i, i < j + 1 → knB (f i) = true) := by
            intro i hi
            by_cases c : i = j
            · subst c; rw [HF.out]; exact hk
            · exact HK.out i (by omega)
          clear hk
          go_wp2_with fail
          refine (kn_any cj tj xj mj kj ej pj _).mono ?_
          rintro r w2 ⟨rfl, hb2⟩
          rw [H1.out]
          have hS2 := hS.later hb2
          have HO2 : Hid (w2.ownsRow w.heap.size 3 1 u3 j (ivs (lst7 j (uns f)))) := own_laterF HO1.out hb2
          replace hb2 : Below w.heap.size w w2 := hbox.trans (hb2.mono hbox.size)
          obtain ⟨a0, a1, a2, a3, a4, a5, a6⟩ := hS2.fx
          clear hS hbox HO1 HO hbw
          go_wp2_with fail
          refine (at_any cj tj xj mj kj ej pj _).mono ?_
          rintro r w3 ⟨rfl, hb3⟩
          have hown3 := own_laterF HO2.out hb3
          replace hb3 : Below w.heap.size w w3 := hb2.trans (hb3.mono hb2.size)
          have HU : Hid (uns f j = atV ⟨cj, tj, xj, mj, kj, ej⟩ pj) := by show _ = _; unfold uns; rw [HF.out]; rfl
          generalize atV ⟨cj, tj, xj, mj, kj, ej⟩ pj = y at *
          have s3 := hb3.size
          have hown1 := hown3.alloc (.cells #[.int .i64 y] 3)
          have hlit := nums_one w3 y
          have hnc : NilCap (.slice (some ⟨w3.heap.size, 0, none⟩) 1 1) := fun c h => by simp at h
          clear hown3 HO2 hS2 a0 a1 a2 a3 a4 a5 a6 hb2
          go_wp2_with (first
            | (at_builtin; refine append_nums rfl _ _ rfl w.heap.size _ _ _ _ [y] rfl hown1 rfl hlit hnc (by simp; omega) (by simp; omega) ?_))
          intro v' w4 hown' _ hb4
          have HO4 : Hid (w4.ownsRow w.heap.size 3 1 v' (j + 1) (ivs (lst7 (j + 1) (uns f)))) := by show World.ownsRow _ _ _ _ _ _ _; rw [lst9_succ, HU.out]; exact hown'
          have HB4 : Hid (Below w.heap.size w w4) := (hb3.alloc s3 _).trans hb4
          clear hown' hown1 hlit hnc hb4
          go_wp2_with fail
          go_roundw
          case rel => exact ⟨j + 1, by omega, by go_num, HK2.out, HO4.out, HB4.out⟩
          case measure => simp [intOf]; omega
      · obtain rfl : j = l := by omega
        have hka : knAll j f = true := knAll_yes HK.out
        have HM : Hid (fitB6 (lst7 j (uns f)) = may9 j f) := by
          show _ = _
          rw [fit_uns hka (by omega)]
          unfold may9
          rw [hka, decide_eq_true (show j ≤ 4 by omega)]; rfl
        have hN := (Nums.own HO.out).1
        clear hka
        go_wp2_with fail
        refine (fits_any (lst7 j (uns f)) _ _ hN (HLim.out.later hbw)).mono ?_
        rintro r w2 ⟨rfl, hw2⟩
        obtain rfl := hw2.symm
        rw [HM.out]
        go_wp2_with fail
        go_ret
        exact ⟨rfl, hbw⟩

theorem cl_16 (s : Int) : cl (s * 1048576) 65536 = 16 * s := by unfold cl; rw [if_pos (by omega)]; omega
theorem cs_bd {l : Nat} {f : Nat → Fx} (h : knAll l f = true) : ∀ j, j ≤ l → 0 ≤ sm j (csF f) ∧ sm j (csF f) ≤ j * 6 := by
  intro j hj
  refine ⟨sm_nn9 fun i hi => ?_, ?_⟩
  · have := kn_facts (knAll_of h (show i < l by omega)); unfold csF; omega
  · rw [← sm_const]
    exact sm_le fun i hi => by have := kn_facts (knAll_of h (show i < l by omega)); unfold csF; omega

set_option maxHeartbeats 2000000 in
set_option maxRecDepth 100000 in
theorem hor9_any (l : Nat) (f : Nat → Fx) (v : Value) (w : World) (h : Fxs w v l f) (hL : Lim w) :
    Calls Tryd.prog 17 #[v] w fun r w' => r = .returned (.int .i64 (hor9 l f)) ∧ Below w.heap.size w w' := by
  have HMay := may9_any l f v w h hL
  clear hL
  obtain ⟨a, cap, rfl, h1, h2, h0, h3⟩ := h
  cases hm : may9 l f with
  | false =>
    have HM : Hid (may9 l f = false) := hm
    have H : Hid (hor9 l f = 0) := hor9_no hm
    clear hm
    go_enter Tryd.func17, Tryd.ntmps17
    go_wp2_with fail
    refine HMay.mono ?_
    rintro r w1 ⟨rfl, hb1⟩
    rw [HM.out]
    go_wp2_with fail
    go_ret
    exact ⟨ret_i H.out.symm, hb1⟩
  | true =>
    have HM : Hid (may9 l f = true) := hm
    have H : Hid (hor9 l f = 16 * sm l (csF f)) := hor9_yes hm
    obtain ⟨l4, hk, _⟩ := may9_facts hm
    have HC : Hid (∀ j, j ≤ l → 0 ≤ sm j (csF f) ∧ sm j (csF f) ≤ j * 6) := cs_bd hk
    clear hm hk
    go_enter Tryd.func17, Tryd.ntmps17
    go_wp2_with fail
    refine HMay.mono ?_
    rintro r w1 ⟨rfl, hb1⟩
    rw [HM.out]
    clear HMay
    go_wp2_with fail
    go_loopw [3, 13] (fun s i wr => ∃ (j : Nat) (z : Int), j ≤ l ∧ i = .int .i64 j ∧ s = .int .i64 z ∧ 0 ≤ z ∧ z ≤ j * 6 ∧ Hid (z = sm j (csF f)) ∧ Below w.heap.size w wr) (fun _ i _ => ((l : Int) - intOf i).toNat)
    case atStart => exact ⟨0, 0, by omega, rfl, rfl, by omega, by omega, rfl, hb1⟩
    case round =>
      obtain ⟨j, z, hj, rfl, rfl, z0, z1, HZ, hbw⟩ := hrel
      by_cases hlt : (j : Int) < l
      · obtain ⟨bk, o, rfl, h4⟩ := h3 (by omega)
        have hrow := row_open (f := f j) (h4 j (by omega))
        clear h4 h3
        obtain ⟨⟨cj, tj, xj, mj, kj, ej, pj⟩, hf⟩ : ∃ y, f j = y := ⟨_, rfl⟩
        have HF : Hid (f j = ⟨cj, tj, xj, mj, kj, ej, pj⟩) := hf
        rw [hf] at hrow
        clear hf
        obtain ⟨k0, k1, k2, k3, k4, k5, k6⟩ := hrow
        simp only at k0 k1 k2 k3 k4 k5 k6
        have e0 := cell_later hbw k0
        have e1 := cell_later hbw k1
        have e2 := cell_later hbw k2
        have e3 := cell_later hbw k3
        have e4 := cell_later hbw k4
        have e5 := cell_later hbw k5
        have e6 := cell_later hbw k6
        have sb := World.block_lt_of_cell? _ _ k0
        clear k0 k1 k2 k3 k4 k5 k6
        have sw := hbw.size
        have hbox : Below w.heap.size w (wr.alloc (.cells #[.int .i64 cj, .int .i64 tj, .int .i64 xj, .int .i64 mj, .int .i64 kj, .int .i64 ej, .int .i64 pj] 26)) := hbw.alloc sw _
        have HS : Hid (z + cj = sm (j + 1) (csF f)) := by show _ = sm j (csF f) + csF f j; rw [← HZ.out]; unfold csF; rw [HF.out]
        have hc := HC.out (j + 1) (by omega)
        rw [← HS.out] at hc
        obtain ⟨y0, y1⟩ := hc
        go_wp2_with fail
        go_roundw
        case rel => exact ⟨j + 1, z + cj, by omega, by go_num, by go_num, by omega, by omega, HS.out, hbox⟩
        case measure => simp [intOf]; omega
      · obtain rfl : j = l := by omega
        go_wp2_with fail
        refine (ceil_yes (z * 1048576) 65536 _ (by omega) (by omega) (by omega) (by omega)).mono ?_
        rintro r w2 ⟨rfl, hb2⟩
        rw [cl_16]
        go_wp2_with fail
        go_ret
        exact ⟨ret_i (by rw [H.out, ← HZ.out]), hbw.trans (hb2.mono hbw.size)⟩
end Go.Proofs.YteibaiflljcghaaDoor
