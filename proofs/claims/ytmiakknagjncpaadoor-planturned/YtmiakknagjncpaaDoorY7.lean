/- Texts that belong together, one behind the other: D4, D5, D6, D7, D10. -/
import Derived.Test.YtmiakknagjncpaaDoorY6
import Derived.WalkMore
import Derived.ScopeJumps
import Derived.BigQuiet
import Derived.Test.YtmiakknagjncpaaDoorY2
import Derived.Test.YtmiakknagjncpaaDoorY1
/- Walks of package demand: Of. -/
namespace Go.Proofs.YtmiakknagjncpaaDoor
open Go.RowKit Go.Shelf
section
variable (c t x m k e p : Int)
set_option maxHeartbeats 2000000 in
set_option maxRecDepth 100000 in
theorem of9_any (n : Int) (w : World) :
    Calls Tryd.prog 83 #[.agg #[.int .i64 c, .int .i64 t, .int .i64 x, .int .i64 m, .int .i64 k, .int .i64 e, .int .i64 p], .int .i64 n] w fun r w' => r = .returned (.int .i64 (ofV9 ⟨c, t, x, m, k, e, p⟩ n)) ∧ Below w.heap.size w w' := by
  have hS := Sev.new w c t x m k e p
  have hE : Hid (Below w.heap.size w (w.alloc (.cells #[.int .i64 c, .int .i64 t, .int .i64 x, .int .i64 m, .int .i64 k, .int .i64 e, .int .i64 p] 33))) := (Below.refl _ _).alloc (Nat.le_refl _) _
  cases h1 : knB ⟨c, t, x, m, k, e, p⟩ with
  | false =>
    have H1 : Hid (knB ⟨c, t, x, m, k, e, p⟩ = false) := h1
    have H : Hid (ofV9 ⟨c, t, x, m, k, e, p⟩ n = 0) := of9_no (by unfold ofB9; rw [h1]; rfl)
    clear h1
    go_enter Tryd.func83, Tryd.ntmps83
    go_wp2_with fail
    refine (kn_any c t x m k e p _).mono ?_
    rintro r w1 ⟨rfl, hb1⟩
    rw [H1.out]
    go_wp2_with fail
    go_ret
    exact ⟨ret_i H.out.symm, hE.out.trans (hb1.mono hE.out.size)⟩
  | true =>
    have H1 : Hid (knB ⟨c, t, x, m, k, e, p⟩ = true) := h1
    cases h2 : wiB n 0 1099511627776 with
    | false =>
      have H2 : Hid (wiB n 0 1099511627776 = false) := h2
      have H : Hid (ofV9 ⟨c, t, x, m, k, e, p⟩ n = 0) := of9_no (by unfold ofB9; rw [h1, h2]; rfl)
      clear h1 h2
      go_enter Tryd.func83, Tryd.ntmps83
      go_wp2_with fail
      refine (kn_any c t x m k e p _).mono ?_
      rintro r w1 ⟨rfl, hb1⟩
      rw [H1.out]
      go_wp2_with fail
      refine (within9_any n 0 1099511627776 _).mono ?_
      rintro r w2 ⟨rfl, hw2⟩
      obtain rfl := hw2.symm
      rw [H2.out]
      go_wp2_with fail
      go_ret
      exact ⟨ret_i H.out.symm, hE.out.trans (hb1.mono hE.out.size)⟩
    | true =>
      have H2 : Hid (wiB n 0 1099511627776 = true) := h2
      obtain ⟨n0, n1⟩ := of_decide_eq_true (show decide (0 ≤ n ∧ n ≤ 1099511627776) = true from h2)
      obtain ⟨_, c0, c1, c2, p0, p1, x1, m0, m1, k1⟩ := kn_facts h1
      simp only at c0 c1 c2 p0 p1 x1 m0 m1 k1
      have hd : 0 ≤ n / p := Int.ediv_nonneg n0 (by omega)
      have hd1 : n / p ≤ n := Int.ediv_le_self _ n0
      have e1 := of9_yes h1 n0 n1
      simp only at e1
      have hbd := of_bd ⟨c, t, x, m, k, e, p⟩ n
      have q0 : mostV m k (n / p) = du m k (n / p) := mostV_in m0 m1 k1 hd (by omega)
      obtain ⟨d, hdd⟩ : ∃ d, du m k (n / p) = d := ⟨_, rfl⟩
      rw [hdd] at e1 q0
      rw [e1] at hbd
      have H : Hid (ofV9 ⟨c, t, x, m, k, e, p⟩ n = c * d) := e1
      have HM : Hid (mostV m k (n / p) = d) := q0
      obtain ⟨b0, b1, _⟩ := hbd
      have hw : IntKind.i64.wrap (c * d) = c * d := by rw [IntKind.wrap_i64]; omega
      have HP : Hid (1 ≤ p ∧ p ≤ 4611686018427387904 ∧ n ≤ 4611686018427387904) := ⟨by omega, by omega, by omega⟩
      obtain ⟨j, hj⟩ : ∃ j, n / p = j := ⟨_, rfl⟩
      have HJ : Hid (n / p = j) := hj
      rw [hj] at HM
      clear h1 h2 e1 q0 hdd hj hd hd1 c0 c1 c2 p0 p1 x1 m0 m1 k1
      go_enter Tryd.func83, Tryd.ntmps83
      go_wp2_with fail
      refine (kn_any c t x m k e p _).mono ?_
      rintro r w1 ⟨rfl, hb1⟩
      rw [H1.out]
      have hS1 := hS.later hb1
      replace hb1 : Below w.heap.size w w1 := hE.out.trans (hb1.mono hE.out.size)
      obtain ⟨a0, a1, a2, a3, a4, a5, a6⟩ := hS1.fx
      go_wp2_with fail
      refine (within9_any n 0 1099511627776 _).mono ?_
      rintro r w2 ⟨rfl, hw2⟩
      obtain rfl := hw2.symm
      rw [H2.out]
      go_wp2_with fail
      refine (floor_yes n p _ n0 HP.out.2.2 HP.out.1 HP.out.2.1).mono ?_
      rintro r w2 ⟨rfl, hb2⟩
      rw [HJ.out]
      have hS2 := hS1.later hb2
      replace hb2 : Below w.heap.size w w2 := hb1.trans (hb2.mono hb1.size)
      clear hS hS1 hb1 a0 a1 a2 a3 a4 a5 a6
      have MK : Hid (∀ w' : World, Below w2.heap.size w2 w' → (w'.cell? ⟨w.heap.size, 0, none⟩ = some (.int .i64 c) ∧ w'.cell? ⟨w.heap.size, 1, none⟩ = some (.int .i64 t) ∧ w'.cell? ⟨w.heap.size, 2, none⟩ = some (.int .i64 x) ∧ w'.cell? ⟨w.heap.size, 3, none⟩ = some (.int .i64 m) ∧ w'.cell? ⟨w.heap.size, 4, none⟩ = some (.int .i64 k) ∧ w'.cell? ⟨w.heap.size, 5, none⟩ = some (.int .i64 e) ∧ w'.cell? ⟨w.heap.size, 6, none⟩ = some (.int .i64 p)) ∧ Below w2.heap.size w2 w') := fun w' hb => ⟨(hS2.later hb).fx, hb⟩
      clear hS2
      go_wp2_with fail
      go_region_held3 (fun w' => (w'.cell? ⟨w.heap.size, 0, none⟩ = some (.int .i64 c) ∧ w'.cell? ⟨w.heap.size, 1, none⟩ = some (.int .i64 t) ∧ w'.cell? ⟨w.heap.size, 2, none⟩ = some (.int .i64 x) ∧ w'.cell? ⟨w.heap.size, 3, none⟩ = some (.int .i64 m) ∧ w'.cell? ⟨w.heap.size, 4, none⟩ = some (.int .i64 k) ∧ w'.cell? ⟨w.heap.size, 5, none⟩ = some (.int .i64 e) ∧ w'.cell? ⟨w.heap.size, 6, none⟩ = some (.int .i64 p)) ∧ Below w2.heap.size w2 w')
        (first | exact MK.out _ (bstep (by assumption) (sBel (by assumption))) | exact MK.out _ (Below.refl _ _).drew)
        (first
        | (go_at_call 91; refine (most_any m k j _).mono ?_; rintro r w3 ⟨rfl, hb3⟩; rw [HM.out]))
      all_goals
        go_wp2
        go_ret
        exact ⟨ret_i H.out.symm, hb2.trans ((sBel (by assumption)).mono hb2.size)⟩
end
end Go.Proofs.YtmiakknagjncpaaDoor
/- Walks of package demand: All, Horizon's sum. -/
namespace Go.Proofs.YtmiakknagjncpaaDoor
open Go.RowKit Go.Shelf

theorem allS_succ (l : Nat) (f : Nat → Fx) (n : Int) : allS (l + 1) f n = allS l f n + ofV9 (f l) n := rfl

set_option maxHeartbeats 2000000 in
set_option maxRecDepth 100000 in
theorem all9_any (l : Nat) (f : Nat → Fx) (n : Int) (v : Value) (w : World) (h : Fxs w v l f) :
    Calls Tryd.prog 50 #[v, .int .i64 n] w fun r w' => r = .returned (.int .i64 (allV9 l f n)) ∧ Below w.heap.size w w' := by
  obtain ⟨a, cap, rfl, h1, h2, h0, h3⟩ := h
  by_cases hl : (l : Int) > 1000
  · have H : Hid (allV9 l f n = 0) := if_neg (by omega)
    go_enter Tryd.func50, Tryd.ntmps50
    go_wp2
    go_ret
    exact ⟨ret_i H.out.symm, Below.refl _ _⟩
  · have H : Hid (allV9 l f n = allS l f n) := all9_in (by omega)
    go_enter Tryd.func50, Tryd.ntmps50
    go_wp2_with fail
    go_loopw [5, 13] (fun s i wr => ∃ (j : Nat) (z : Int), j ≤ l ∧ i = .int .i64 j ∧ s = .int .i64 z ∧ 0 ≤ z ∧ z ≤ j * 1099511627776 ∧ Hid (z = allS j f n) ∧ Below w.heap.size w wr) (fun _ i _ => ((l : Int) - intOf i).toNat)
    case atStart => exact ⟨0, 0, by omega, rfl, rfl, by omega, by omega, rfl, Below.refl _ _⟩
    case round =>
      obtain ⟨j, z, hj, rfl, rfl, z0, z1, HZ, hbw⟩ := hrel
      by_cases hlt : (j : Int) < l
      · obtain ⟨bk, o, rfl, h4⟩ := h3 (by omega)
        have hrow := row_open (f := f j) (h4 j (by omega))
        clear h4 h3
        obtain ⟨⟨cj, tj, xj, mj, kj, ej, pj⟩, hf⟩ : ∃ y, f j = y := ⟨_, rfl⟩
        have HF : Hid (f j = ⟨cj, tj, xj, mj, kj, ej, pj⟩) := hf
        rw [hf] at hrow
        clear hf
        obtain ⟨k0, k1, k2, k3, k4, k5, k6⟩ := hrow
        simp only at k0 k1 k2 k3 k4 k5 k6
        have e0 := cell_later hbw k0
        have e1 := cell_later hbw k1
        have e2 := cell_later hbw k2
        have e3 := cell_later hbw k3
        have e4 := cell_later hbw k4
        have e5 := cell_later hbw k5
        have e6 := cell_later hbw k6
        have sb := World.block_lt_of_cell? _ _ k0
        clear k0 k1 k2 k3 k4 k5 k6
        have sw := hbw.size
        have hbox : Below w.heap.size w (wr.alloc (.cells #[.int .i64 cj, .int .i64 tj, .int .i64 xj, .int .i64 mj, .int .i64 kj, .int .i64 ej, .int .i64 pj] 33)) := hbw.alloc sw _
        go_wp2_with fail
        refine (of9_any cj tj xj mj kj ej pj n _).mono ?_
        rintro r w2 ⟨rfl, hb2⟩
        have hb : Below w.heap.size w w2 := hbox.trans (hb2.mono hbox.size)
        obtain ⟨b0, b1, _⟩ := of_bd ⟨cj, tj, xj, mj, kj, ej, pj⟩ n
        have HS : Hid (z + ofV9 ⟨cj, tj, xj, mj, kj, ej, pj⟩ n = allS (j + 1) f n) := by show _ = _; rw [allS_succ, HF.out, ← HZ.out]
        generalize ofV9 ⟨cj, tj, xj, mj, kj, ej, pj⟩ n = y at *
        clear hb2 hbox
        go_wp2_with fail
        go_roundw
        case rel => exact ⟨j + 1, z + y, by omega, by go_num, by go_num, by omega, by omega, HS.out, hb⟩
        case measure => simp [intOf]; omega
      · obtain rfl : j = l := by omega
        go_wp2
        go_ret
        exact ⟨ret_i (by rw [H.out]; exact HZ.out), hbw⟩
end Go.Proofs.YtmiakknagjncpaaDoor
/- Walks of package demand: May, Horizon. -/
namespace Go.Proofs.YtmiakknagjncpaaDoor
open Go.RowKit Go.Shelf

theorem lst9_succ (n : Nat) (g : Nat → Int) : lst7 (n + 1) g = lst7 n g ++ [g n] := by unfold lst7; rw [List.range_succ, List.map_append]; rfl
theorem un_bd {f : Fx} (h : knB f = true) : 1 ≤ atV f.sp f.p ∧ atV f.sp f.p ≤ 1048576 := by
  obtain ⟨hs, c0, c1, c2, p0, p1, x1, m0, m1, k1⟩ := kn_facts h
  exact at_pos hs p0 p1
theorem fit_uns {l : Nat} {f : Nat → Fx} (h : knAll l f = true) (hl : l ≤ 4) : fitB6 (lst7 l (uns f)) = decide (sm l (uns f) ≤ 983040) := by
  have hs : sumB (lst7 l (uns f)) = true := by
    unfold sumB
    rw [lst7_len, decide_eq_true (show l ≤ 1000 by omega), Bool.true_and, List.all_eq_true]
    intro u hu
    unfold lst7 at hu
    obtain ⟨i, hi, rfl⟩ := List.mem_map.1 hu
    have := un_bd (knAll_of h (List.mem_range.1 hi))
    unfold unB wiB uns
    exact decide_eq_true (by omega)
  unfold fitB6
  rw [hs, sum_yes hs, lst7_sum, Bool.true_and]

set_option maxHeartbeats 2000000 in
set_option maxRecDepth 100000 in
theorem may9_any (l : Nat) (f : Nat → Fx) (v : Value) (w : World) (h : Fxs w v l f) (hL : Lim w) :
    Calls Tryd.prog 11 #[v] w fun r w' => r = .returned (.bool (may9 l f)) ∧ Below w.heap.size w w' := by
  obtain ⟨a, cap, rfl, h1, h2, h0, h3⟩ := h
  have HLim : Hid (Lim w) := hL
  clear hL
  by_cases hl : (l : Int) > 4
  · have H : Hid (may9 l f = false) := may9_long (by omega)
    go_enter Tryd.func11, Tryd.ntmps11
    go_wp2
    go_ret
    exact ⟨ret_b H.out.symm, Below.refl _ _⟩
  · go_enter Tryd.func11, Tryd.ntmps11
    go_wp2_with fail
    go_loopw [3, 11] (fun s i wr => ∃ (j : Nat), j ≤ l ∧ i = .int .i64 j ∧ Hid (∀ i, i < j → knB (f i) = true) ∧ Hid (wr.ownsRow w.heap.size 3 1 s j (ivs (lst7 j (uns f)))) ∧ Below w.heap.size w wr) (fun _ i _ => ((l : Int) - intOf i).toNat)
    case atStart => exact ⟨0, by omega, rfl, fun i hi => by omega, World.ownsRow_nil _ _ _ _, Below.refl _ _⟩
    case round =>
      obtain ⟨j, hj, rfl, HK, HO, hbw⟩ := hrel
      by_cases hlt : (j : Int) < l
      · obtain ⟨bk, o, rfl, h4⟩ := h3 (by omega)
        have hrow := row_open (f := f j) (h4 j (by omega))
        clear h4 h3
        obtain ⟨⟨cj, tj, xj, mj, kj, ej, pj⟩, hf⟩ : ∃ y, f j = y := ⟨_, rfl⟩
        have HF : Hid (f j = ⟨cj, tj, xj, mj, kj, ej, pj⟩) := hf
        rw [hf] at hrow
        clear hf
        obtain ⟨k0, k1, k2, k3, k4, k5, k6⟩ := hrow
        simp only at k0 k1 k2 k3 k4 k5 k6
        have e0 := cell_later hbw k0
        have e1 := cell_later hbw k1
        have e2 := cell_later hbw k2
        have e3 := cell_later hbw k3
        have e4 := cell_later hbw k4
        have e5 := cell_later hbw k5
        have e6 := cell_later hbw k6
        have sb := World.block_lt_of_cell? _ _ k0
        clear k0 k1 k2 k3 k4 k5 k6
        have sw := hbw.size
        have hbox : Below w.heap.size w (wr.alloc (.cells #[.int .i64 cj, .int .i64 tj, .int .i64 xj, .int .i64 mj, .int .i64 kj, .int .i64 ej, .int .i64 pj] 33)) := hbw.alloc sw _
        have hS := Sev.new wr cj tj xj mj kj ej pj
        have HO1 : Hid (World.ownsRow (wr.alloc (.cells #[.int .i64 cj, .int .i64 tj, .int .i64 xj, .int .i64 mj, .int .i64 kj, .int .i64 ej, .int .i64 pj] 33)) w.heap.size 3 1 u3 j (ivs (lst7 j (uns f)))) := HO.out.alloc _
        cases hk : knB ⟨cj, tj, xj, mj, kj, ej, pj⟩ with
        | false =>
          have H1 : Hid (knB ⟨cj, tj, xj, mj, kj, ej, pj⟩ = false) := hk
          have H : Hid (may9 l f = false) := may9_kn (knAll_no (i := j) (by omega) (by rw [HF.out]; exact hk))
          clear hk
          go_wp2_with fail
          refine (kn_any cj tj xj mj kj ej pj _).mono ?_
          rintro r w2 ⟨rfl, hb2⟩
          rw [H1.out]
          go_wp2_with fail
          go_ret
          exact ⟨ret_b H.out.symm, hbox.trans (hb2.mono hbox.size)⟩
        | true =>
          have H1 : Hid (knB ⟨cj, tj, xj, mj, kj, ej, pj⟩ = true) := hk
          have HK2 : Hid (∀ i, i < j + 1 → knB (f i) = true) := by
            intro i hi
            by_cases c : i = j
            · subst c; rw [HF.out]; exact hk
            · exact HK.out i (by omega)
          clear hk
          go_wp2_with fail
          refine (kn_any cj tj xj mj kj ej pj _).mono ?_
          rintro r w2 ⟨rfl, hb2⟩
          rw [H1.out]
          have hS2 := hS.later hb2
          have HO2 : Hid (w2.ownsRow w.heap.size 3 1 u3 j (ivs (lst7 j (uns f)))) := own_laterF HO1.out hb2
          replace hb2 : Below w.heap.size w w2 := hbox.trans (hb2.mono hbox.size)
          obtain ⟨a0, a1, a2, a3, a4, a5, a6⟩ := hS2.fx
          clear hS hbox HO1 HO hbw
          go_wp2_with fail
          refine (at_any cj tj xj mj kj ej pj _).mono ?_
          rintro r w3 ⟨rfl, hb3⟩
          have hown3 := own_laterF HO2.out hb3
          replace hb3 : Below w.heap.size w w3 := hb2.trans (hb3.mono hb2.size)
          have HU : Hid (uns f j = atV ⟨cj, tj, xj, mj, kj, ej⟩ pj) := by show _ = _; unfold uns; rw [HF.out]; rfl
          generalize atV ⟨cj, tj, xj, mj, kj, ej⟩ pj = y at *
          have s3 := hb3.size
          have hown1 := hown3.alloc (.cells #[.int .i64 y] 3)
          have hlit := nums_one w3 y
          have hnc : NilCap (.slice (some ⟨w3.heap.size, 0, none⟩) 1 1) := fun c h => by simp at h
          clear hown3 HO2 hS2 a0 a1 a2 a3 a4 a5 a6 hb2
          go_wp2_with (first
            | (at_builtin; refine append_nums rfl _ _ rfl w.heap.size _ _ _ _ [y] rfl hown1 rfl hlit hnc (by simp; omega) (by simp; omega) ?_))
          intro v' w4 hown' _ hb4
          have HO4 : Hid (w4.ownsRow w.heap.size 3 1 v' (j + 1) (ivs (lst7 (j + 1) (uns f)))) := by show World.ownsRow _ _ _ _ _ _ _; rw [lst9_succ, HU.out]; exact hown'
          have HB4 : Hid (Below w.heap.size w w4) := (hb3.alloc s3 _).trans hb4
          clear hown' hown1 hlit hnc hb4
          go_wp2_with fail
          go_roundw
          case rel => exact ⟨j + 1, by omega, by go_num, HK2.out, HO4.out, HB4.out⟩
          case measure => simp [intOf]; omega
      · obtain rfl : j = l := by omega
        have hka : knAll j f = true := knAll_yes HK.out
        have HM : Hid (fitB6 (lst7 j (uns f)) = may9 j f) := by
          show _ = _
          rw [fit_uns hka (by omega)]
          unfold may9
          rw [hka, decide_eq_true (show j ≤ 4 by omega)]; rfl
        have hN := (Nums.own HO.out).1
        clear hka
        go_wp2_with fail
        refine (fits_any (lst7 j (uns f)) _ _ hN (HLim.out.later hbw)).mono ?_
        rintro r w2 ⟨rfl, hw2⟩
        obtain rfl := hw2.symm
        rw [HM.out]
        go_wp2_with fail
        go_ret
        exact ⟨rfl, hbw⟩

theorem cl_16 (s : Int) : cl (s * 1048576) 65536 = 16 * s := by unfold cl; rw [if_pos (by omega)]; omega
theorem cs_bd {l : Nat} {f : Nat → Fx} (h : knAll l f = true) : ∀ j, j ≤ l → 0 ≤ sm j (csF f) ∧ sm j (csF f) ≤ j * 6 := by
  intro j hj
  refine ⟨sm_nn9 fun i hi => ?_, ?_⟩
  · have := kn_facts (knAll_of h (show i < l by omega)); unfold csF; omega
  · rw [← sm_const]
    exact sm_le fun i hi => by have := kn_facts (knAll_of h (show i < l by omega)); unfold csF; omega

set_option maxHeartbeats 2000000 in
set_option maxRecDepth 100000 in
theorem hor9_any (l : Nat) (f : Nat → Fx) (v : Value) (w : World) (h : Fxs w v l f) (hL : Lim w) :
    Calls Tryd.prog 49 #[v] w fun r w' => r = .returned (.int .i64 (hor9 l f)) ∧ Below w.heap.size w w' := by
  have HMay := may9_any l f v w h hL
  clear hL
  obtain ⟨a, cap, rfl, h1, h2, h0, h3⟩ := h
  cases hm : may9 l f with
  | false =>
    have HM : Hid (may9 l f = false) := hm
    have H : Hid (hor9 l f = 0) := hor9_no hm
    clear hm
    go_enter Tryd.func49, Tryd.ntmps49
    go_wp2_with fail
    refine HMay.mono ?_
    rintro r w1 ⟨rfl, hb1⟩
    rw [HM.out]
    go_wp2_with fail
    go_ret
    exact ⟨ret_i H.out.symm, hb1⟩
  | true =>
    have HM : Hid (may9 l f = true) := hm
    have H : Hid (hor9 l f = 16 * sm l (csF f)) := hor9_yes hm
    obtain ⟨l4, hk, _⟩ := may9_facts hm
    have HC : Hid (∀ j, j ≤ l → 0 ≤ sm j (csF f) ∧ sm j (csF f) ≤ j * 6) := cs_bd hk
    clear hm hk
    go_enter Tryd.func49, Tryd.ntmps49
    go_wp2_with fail
    refine HMay.mono ?_
    rintro r w1 ⟨rfl, hb1⟩
    rw [HM.out]
    clear HMay
    go_wp2_with fail
    go_loopw [3, 13] (fun s i wr => ∃ (j : Nat) (z : Int), j ≤ l ∧ i = .int .i64 j ∧ s = .int .i64 z ∧ 0 ≤ z ∧ z ≤ j * 6 ∧ Hid (z = sm j (csF f)) ∧ Below w.heap.size w wr) (fun _ i _ => ((l : Int) - intOf i).toNat)
    case atStart => exact ⟨0, 0, by omega, rfl, rfl, by omega, by omega, rfl, hb1⟩
    case round =>
      obtain ⟨j, z, hj, rfl, rfl, z0, z1, HZ, hbw⟩ := hrel
      by_cases hlt : (j : Int) < l
      · obtain ⟨bk, o, rfl, h4⟩ := h3 (by omega)
        have hrow := row_open (f := f j) (h4 j (by omega))
        clear h4 h3
        obtain ⟨⟨cj, tj, xj, mj, kj, ej, pj⟩, hf⟩ : ∃ y, f j = y := ⟨_, rfl⟩
        have HF : Hid (f j = ⟨cj, tj, xj, mj, kj, ej, pj⟩) := hf
        rw [hf] at hrow
        clear hf
        obtain ⟨k0, k1, k2, k3, k4, k5, k6⟩ := hrow
        simp only at k0 k1 k2 k3 k4 k5 k6
        have e0 := cell_later hbw k0
        have e1 := cell_later hbw k1
        have e2 := cell_later hbw k2
        have e3 := cell_later hbw k3
        have e4 := cell_later hbw k4
        have e5 := cell_later hbw k5
        have e6 := cell_later hbw k6
        have sb := World.block_lt_of_cell? _ _ k0
        clear k0 k1 k2 k3 k4 k5 k6
        have sw := hbw.size
        have hbox : Below w.heap.size w (wr.alloc (.cells #[.int .i64 cj, .int .i64 tj, .int .i64 xj, .int .i64 mj, .int .i64 kj, .int .i64 ej, .int .i64 pj] 33)) := hbw.alloc sw _
        have HS : Hid (z + cj = sm (j + 1) (csF f)) := by show _ = sm j (csF f) + csF f j; rw [← HZ.out]; unfold csF; rw [HF.out]
        have hc := HC.out (j + 1) (by omega)
        rw [← HS.out] at hc
        obtain ⟨y0, y1⟩ := hc
        go_wp2_with fail
        go_roundw
        case rel => exact ⟨j + 1, z + cj, by omega, by go_num, by go_num, by omega, by omega, HS.out, hbox⟩
        case measure => simp [intOf]; omega
      · obtain rfl : j = l := by omega
        go_wp2_with fail
        refine (ceil_yes (z * 1048576) 65536 _ (by omega) (by omega) (by omega) (by omega)).mono ?_
        rintro r w2 ⟨rfl, hb2⟩
        rw [cl_16]
        go_wp2_with fail
        go_ret
        exact ⟨ret_i (by rw [H.out, ← HZ.out]), hbw.trans (hb2.mono hbw.size)⟩
end Go.Proofs.YtmiakknagjncpaaDoor
/- Walks of package demand: First, Test. -/
namespace Go.Proofs.YtmiakknagjncpaaDoor
open Go.RowKit Go.Shelf

/-- What is known of those from z on. -/
def DwF (g : Int → Int) (h z r : Int) : Prop := (r = 0 ∧ ∀ i, z ≤ i → 1 ≤ i → i < h → g i ≤ i) ∨ (1 ≤ r ∧ z ≤ r ∧ r < h ∧ r < g r ∧ ∀ i, z ≤ i → 1 ≤ i → i < r → g i ≤ i)
theorem DwF.start (g : Int → Int) (h : Int) : DwF g h h 0 := .inl ⟨rfl, fun i _ _ _ => by omega⟩
theorem DwF.stop {g : Int → Int} {h z r : Int} (hd : DwF g h z r) (hz : z ≤ 1) : IsFst g h r := by
  rcases hd with ⟨rfl, h1⟩ | ⟨r0, r1, r2, r3, r4⟩
  · exact .inl ⟨rfl, fun i i0 i1 => h1 i (by omega) i0 i1⟩
  · exact .inr ⟨r0, r2, r3, fun i i0 i1 => r4 i (by omega) i0 i1⟩
theorem DwF.yes {g : Int → Int} {h z : Int} (hz : 2 ≤ z) (hh : z ≤ h) (hg : z - 1 < g (z - 1)) : DwF g h (z - 1) (z - 1) :=
  .inr ⟨by omega, by omega, by omega, hg, fun i i0 _ i1 => by omega⟩
theorem DwF.no {g : Int → Int} {h z r : Int} (hd : DwF g h z r) (hg : g (z - 1) ≤ z - 1) : DwF g h (z - 1) r := by
  rcases hd with ⟨rfl, h1⟩ | ⟨r0, r1, r2, r3, r4⟩
  · refine .inl ⟨rfl, fun i i0 i1 i2 => ?_⟩
    by_cases c : i = z - 1
    · subst c; exact hg
    · exact h1 i (by omega) i1 i2
  · refine .inr ⟨r0, by omega, r2, r3, fun i i0 i1 i2 => ?_⟩
    by_cases c : i = z - 1
    · subst c; exact hg
    · exact r4 i (by omega) i1 i2

set_option maxHeartbeats 4000000 in
set_option maxRecDepth 1000000 in
theorem first9_any (l : Nat) (f : Nat → Fx) (v : Value) (w : World) (h : Fxs w v l f) (hL : Lim w) :
    Calls Tryd.prog 27 #[v] w fun r w' => r = .returned (.int .i64 (first9 l f)) ∧ Below w.heap.size w w' := by
  have HF : Hid (Fxs w v l f) := h
  obtain ⟨g0, g1⟩ := hor9_nonneg l f
  obtain ⟨h9, hh⟩ : ∃ h9, hor9 l f = h9 := ⟨_, rfl⟩
  have HH : Hid (hor9 l f = h9) := hh
  rw [hh] at g0 g1
  clear hh
  have HHor := hor9_any l f v w h hL
  clear h hL
  go_enter Tryd.func27, Tryd.ntmps27
  go_wp2_with fail
  refine wp_scope_jumps 0 (fun a' w' => ∃ (z r : Int) (u5 u6 u7 u8 u9 u10 u11 u12 u13 u14 u15 u16 u17 : Value), a' = { tmps := #[v, undef, .int .i64 0, .int .i64 r, .int .i64 z, u5, u6, u7, u8, u9, u10, u11, u12, u13, u14, u15, u16, u17], defers := [] } ∧ 0 ≤ z ∧ z ≤ h9 ∧ 0 ≤ r ∧ r ≤ 384 ∧ Hid (DwF (allV9 l f) h9 z r) ∧ Below w.heap.size w w') (fun a' _ => (intOf (a'.tmps.getD 4 undef)).toNat) rfl ?_ ?_
  · go_wp2_with fail
    refine HHor.mono ?_
    rintro r9 w1 ⟨rfl, hb1⟩
    rw [HH.out]
    clear HHor
    have HD : Hid (DwF (allV9 l f) h9 h9 0) := DwF.start _ _
    go_wp2_with fail
    go_step3
    by_cases c1 : h9 - 1 < 1
    · have HR : Hid (first9 l f = 0) := first9_eq (by rw [HH.out]; exact DwF.stop HD.out (by omega))
      go_wp2_with fail
      simp only [Exit.jump]
      go_ret
      exact ⟨ret_i HR.out.symm, hb1⟩
    · go_wp2_with fail
      refine (all9_any l f (h9 - 1) v _ (HF.out.later hb1)).mono ?_
      rintro r9 w5 ⟨rfl, hb5⟩
      replace hb5 : Below w.heap.size w w5 := hb1.trans (hb5.mono hb1.size)
      obtain ⟨y, hy⟩ : ∃ y, allV9 l f (h9 - 1) = y := ⟨_, rfl⟩
      have HY : Hid (allV9 l f (h9 - 1) = y) := hy
      rw [hy]
      clear hy
      by_cases c2 : y > h9 - 1
      · have HD2 : Hid (DwF (allV9 l f) h9 (h9 - 1) (h9 - 1)) := DwF.yes (by omega) (by omega) (by rw [HY.out]; exact c2)
        go_wp2_with fail
        go_step3
        exact ⟨rfl, ⟨h9 - 1, h9 - 1, _, _, _, _, _, _, _, _, _, _, _, _, _, rfl, by omega, by omega, by omega, by omega, HD2.out, hb5⟩⟩
      · have HD2 : Hid (DwF (allV9 l f) h9 (h9 - 1) 0) := DwF.no HD.out (by rw [HY.out]; omega)
        go_wp2_with fail
        go_step3
        exact ⟨rfl, ⟨h9 - 1, 0, _, _, _, _, _, _, _, _, _, _, _, _, _, rfl, by omega, by omega, by omega, by omega, HD2.out, hb5⟩⟩
  · clear HHor
    rintro a' w1 ⟨z, r, u5, u6, u7, u8, u9, u10, u11, u12, u13, u14, u15, u16, u17, rfl, z0, z1, r0, r1, HD, hb1⟩
    by_cases c1 : z - 1 < 1
    · have HR : Hid (first9 l f = r) := first9_eq (by rw [HH.out]; exact DwF.stop HD.out (by omega))
      go_wp2_with fail
      simp only [Exit.jump]
      go_ret
      exact ⟨ret_i HR.out.symm, hb1⟩
    · go_wp2_with fail
      refine (all9_any l f (z - 1) v _ (HF.out.later hb1)).mono ?_
      rintro r9 w5 ⟨rfl, hb5⟩
      replace hb5 : Below w.heap.size w w5 := hb1.trans (hb5.mono hb1.size)
      obtain ⟨y, hy⟩ : ∃ y, allV9 l f (z - 1) = y := ⟨_, rfl⟩
      have HY : Hid (allV9 l f (z - 1) = y) := hy
      rw [hy]
      clear hy
      by_cases c2 : y > z - 1
      · have HD2 : Hid (DwF (allV9 l f) h9 (z - 1) (z - 1)) := DwF.yes (by omega) (by omega) (by rw [HY.out]; exact c2)
        go_wp2_with fail
        go_step3
        refine ⟨rfl, ⟨z - 1, z - 1, _, _, _, _, _, _, _, _, _, _, _, _, _, rfl, by omega, by omega, by omega, by omega, HD2.out, hb5⟩, ?_⟩
        simp [intOf]; omega
      · have HD2 : Hid (DwF (allV9 l f) h9 (z - 1) r) := DwF.no HD.out (by rw [HY.out]; omega)
        go_wp2_with fail
        go_step3
        refine ⟨rfl, ⟨z - 1, r, _, _, _, _, _, _, _, _, _, _, _, _, _, rfl, by omega, by omega, by omega, by omega, HD2.out, hb5⟩, ?_⟩
        simp [intOf]; omega

set_option maxHeartbeats 2000000 in
set_option maxRecDepth 100000 in
theorem test9_any (l : Nat) (f : Nat → Fx) (v : Value) (w : World) (h : Fxs w v l f) (hL : Lim w) :
    Calls Tryd.prog 12 #[v] w fun r w' => r = .returned (.bool (tst9 l f)) ∧ Below w.heap.size w w' := by
  cases hm : may9 l f with
  | false =>
    have HM : Hid (may9 l f = false) := hm
    have H : Hid (tst9 l f = false) := by show _ = _; unfold tst9; rw [hm]; rfl
    clear hm
    go_enter Tryd.func12, Tryd.ntmps12
    go_wp2_with fail
    refine (may9_any l f v _ h hL).mono ?_
    rintro r w1 ⟨rfl, hb1⟩
    rw [HM.out]
    go_wp2_with fail
    go_ret
    exact ⟨ret_b H.out.symm, hb1⟩
  | true =>
    have HM : Hid (may9 l f = true) := hm
    have H : Hid (tst9 l f = decide (first9 l f = 0)) := by show _ = _; unfold tst9; rw [hm]; rfl
    clear hm
    go_enter Tryd.func12, Tryd.ntmps12
    go_wp2_with fail
    refine (may9_any l f v _ h hL).mono ?_
    rintro r w1 ⟨rfl, hb1⟩
    rw [HM.out]
    go_wp2_with fail
    refine (first9_any l f v _ (h.later hb1) (hL.later hb1)).mono ?_
    rintro r w2 ⟨rfl, hb2⟩
    go_wp2_with fail
    go_ret
    exact ⟨ret_b (by rw [H.out]; first | rfl | simp), hb1.trans (hb2.mono hb1.size)⟩
end Go.Proofs.YtmiakknagjncpaaDoor
/- The chapter's example of chapter 9. -/
namespace Go.Proofs.YtmiakknagjncpaaDoor
open Go.RowKit Go.Shelf
/-- One task alone that may be passes. -/
theorem tst_one {f : Nat → Fx} (h : may9 1 f = true) : tst9 1 f = true :=
  tst_iff.2 ⟨h, fun n n0 _ => by
    have := (of_bd (f 0) n).2.2 n0
    show 0 + ofV9 (f 0) n ≤ n
    omega⟩
end Go.Proofs.YtmiakknagjncpaaDoor
