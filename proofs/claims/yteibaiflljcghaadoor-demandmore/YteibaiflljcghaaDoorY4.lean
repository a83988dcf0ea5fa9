/- Texts that belong together, one behind the other: D3, D4, D5, D6, D7, D8, D9. -/
import Derived.Test.YteibaiflljcghaaDoorY3
import Derived.Deep.RegionHeld3
import Derived.WalkMore
import Derived.ScopeJumps
import Derived.BigQuiet
import Derived.Test.YteibaiflljcghaaDoorY2
/- Walks of package demand: whether a list has a number, known, within, Of. -/
namespace Go.Proofs.YteibaiflljcghaaDoor
open Go.RowKit Go.Shelf

set_option maxHeartbeats 1000000 in
set_option maxRecDepth 100000 in
theorem index_any (xs : List Int) (n : Int) (v : Value) (w : World) (h : Nums w v xs) (hx : xs.length ≤ 100000) :
    Calls Tryd.prog 51 #[v, .int .i64 n] w fun r w' => (∃ z : Int, r = .returned (.int .i64 z) ∧ -1 ≤ z ∧ z ≤ 100000 ∧ Hid (0 ≤ z ↔ n ∈ xs)) ∧ w' = w := by
  obtain ⟨a, cap, rfl, h1, h2, h3⟩ := h
  go_enter Tryd.func51, Tryd.ntmps51
  go_wp2_with fail
  go_loop [8] (fun s => ∃ (j : Nat), j ≤ xs.length ∧ s = .int .i64 j ∧ Hid (∀ i, i < j → xs.getD i 0 ≠ n)) (fun s => ((xs.length : Int) - intOf s).toNat)
  case atStart => exact ⟨0, by omega, rfl, fun i hi => by omega⟩
  case round =>
    obtain ⟨j, hj, rfl, HZ⟩ := hrel
    by_cases hlt : (j : Int) < xs.length
    · obtain ⟨b, o, rfl, h4⟩ := h3 (by intro e; rw [e, List.length_nil] at hlt; omega)
      have hc := h4 j (by omega)
      clear h4 h3
      have HJ : Hid (xs.getD j 0 ∈ xs) := by
        show xs.getD j 0 ∈ xs
        have e : xs.getD j 0 = xs[j]'(by omega) := by simp [List.getD, show j < xs.length by omega]
        rw [e]; exact List.getElem_mem _
      obtain ⟨y, hy⟩ : ∃ y, xs.getD j 0 = y := ⟨_, rfl⟩
      have HY : Hid (xs.getD j 0 = y) := hy
      rw [hy] at hc
      clear hy
      by_cases he : n = y
      · have HE : Hid (n ∈ xs) := by show n ∈ xs; rw [he, ← HY.out]; exact HJ.out
        go_wp2
        go_ret
        exact ⟨⟨j, rfl, by omega, by omega, by have := HE.out; exact ⟨fun _ => by first | exact this | (rw [← he]; exact this), fun _ => by omega⟩⟩, rfl⟩
      · have HN : Hid (∀ i, i < j + 1 → xs.getD i 0 ≠ n) := by
          intro i hi
          by_cases c : i = j
          · subst c; rw [HY.out]; exact fun h => he h.symm
          · exact HZ.out i (by omega)
        go_wp2_with fail
        go_round
        case rel => exact ⟨j + 1, by omega, by go_num, HN.out⟩
        case measure => simp [intOf]; omega
    · have HN : Hid (n ∉ xs) := by
        intro hm
        obtain ⟨i, hi, e⟩ := List.getElem_of_mem hm
        exact HZ.out i (by omega) (by simp [List.getD, hi, e])
      go_wp2
      go_ret
      exact ⟨⟨-1, rfl, by omega, by omega, ⟨fun h => by omega, fun h => absurd h HN.out⟩⟩, rfl⟩

set_option maxHeartbeats 1000000 in
set_option maxRecDepth 100000 in
theorem contains_any (xs : List Int) (n : Int) (v : Value) (w : World) (h : Nums w v xs) (hx : xs.length ≤ 100000) :
    Calls Tryd.prog 38 #[v, .int .i64 n] w fun r w' => r = .returned (.bool (decide (n ∈ xs))) ∧ w' = w := by
  go_enter Tryd.func38, Tryd.ntmps38
  go_wp2_with fail
  refine (index_any xs n v _ h hx).mono ?_
  rintro r w1 ⟨⟨z, rfl, z0, z1, HZ⟩, rfl⟩
  go_wp2
  go_ret
  exact ⟨ret_b (decide_eq_decide.2 HZ.out), rfl⟩

theorem contains_bel (xs : List Int) (n : Int) (v : Value) (w : World) (h : Nums w v xs) (hx : xs.length ≤ 100000) :
    Calls Tryd.prog 38 #[v, .int .i64 n] w fun r w' => r = .returned (.bool (decide (n ∈ xs))) ∧ Below w.heap.size w w' := by
  refine (contains_any xs n v w h hx).mono ?_
  rintro r w' ⟨rfl, rfl⟩
  exact ⟨rfl, Below.refl _ _⟩

theorem mem_all (f : Fx) : decide (f.p ∈ allL f.sp) = knB f := by
  cases h : maySp f.sp with
  | false => rw [all_no h]; unfold knB; rw [h]; simp
  | true =>
    rw [all_yes h]
    unfold knB wiB
    rw [h, Bool.true_and]
    obtain ⟨c0, c1, f2, f3, f4, _⟩ := may_facts h
    rw [decide_eq_decide]
    unfold perL lst7 rn perN
    simp only [List.mem_map, List.mem_range, Fx.sp] at *
    constructor
    · rintro ⟨i, hi, e⟩
      omega
    · rintro ⟨p0, p1⟩
      exact ⟨(f.p - f.t).toNat, by omega, by omega⟩

theorem within9_any (n a b : Int) (w : World) :
    Calls Tryd.prog 30 #[.int .i64 n, .int .i64 a, .int .i64 b] w fun e w' => e = .returned (.bool (wiB n a b)) ∧ w' = w := by
  by_cases c0 : a ≤ n
  · have H : Hid (wiB n a b = decide (n ≤ b)) := by show _ = _; unfold wiB; simp [c0]
    go_enter Tryd.func30, Tryd.ntmps30
    go_wp2
    go_ret
    exact ⟨ret_b H.out.symm, rfl⟩
  · have H : Hid (wiB n a b = false) := by show _ = _; unfold wiB; simp [c0]
    go_enter Tryd.func30, Tryd.ntmps30
    go_wp2
    go_ret
    exact ⟨ret_b H.out.symm, rfl⟩

section
variable (c t x m k e p : Int)
set_option maxHeartbeats 2000000 in
set_option maxRecDepth 100000 in
theorem kn_any (w : World) :
    Calls Tryd.prog 25 #[.agg #[.int .i64 c, .int .i64 t, .int .i64 x, .int .i64 m, .int .i64 k, .int .i64 e, .int .i64 p]] w fun r w' => r = .returned (.bool (knB ⟨c, t, x, m, k, e, p⟩)) ∧ Below w.heap.size w w' := by
  have hS := Sev.new w c t x m k e p
  have hE : Hid (Below w.heap.size w (w.alloc (.cells #[.int .i64 c, .int .i64 t, .int .i64 x, .int .i64 m, .int .i64 k, .int .i64 e, .int .i64 p] 26))) := (Below.refl _ _).alloc (Nat.le_refl _) _
  have HK : Hid (decide (p ∈ allL ⟨c, t, x, m, k, e⟩) = knB ⟨c, t, x, m, k, e, p⟩) := mem_all ⟨c, t, x, m, k, e, p⟩
  obtain ⟨q, hq⟩ : ∃ q, knB ⟨c, t, x, m, k, e, p⟩ = q := ⟨_, rfl⟩
  rw [hq] at HK ⊢
  obtain ⟨xs, hxs⟩ : ∃ xs, allL ⟨c, t, x, m, k, e⟩ = xs := ⟨_, rfl⟩
  have HL : Hid (xs.length ≤ 100000) := by show _ ≤ _; rw [← hxs]; exact all_len _
  rw [hxs] at HK
  have HX : Hid (allL ⟨c, t, x, m, k, e⟩ = xs) := hxs
  clear hq hxs
  go_enter Tryd.func25, Tryd.ntmps25
  go_wp2_with fail
  generalize (w.alloc (.cells #[.int .i64 c, .int .i64 t, .int .i64 x, .int .i64 m, .int .i64 k, .int .i64 e, .int .i64 p] 26)) = W at *
  have s5 := hE.out.size
  have MK : Hid (∀ w' : World, Below W.heap.size W w' → (w'.cell? ⟨w.heap.size, 0, none⟩ = some (.int .i64 c) ∧ w'.cell? ⟨w.heap.size, 1, none⟩ = some (.int .i64 t) ∧ w'.cell? ⟨w.heap.size, 2, none⟩ = some (.int .i64 x) ∧ w'.cell? ⟨w.heap.size, 3, none⟩ = some (.int .i64 m) ∧ w'.cell? ⟨w.heap.size, 4, none⟩ = some (.int .i64 k) ∧ w'.cell? ⟨w.heap.size, 5, none⟩ = some (.int .i64 e) ∧ w'.cell? ⟨w.heap.size, 6, none⟩ = some (.int .i64 p)) ∧ Below W.heap.size W w') := fun w' hb => ⟨(hS.later hb).fx, hb⟩
  clear hS
  go_region_held3 (fun w' => (w'.cell? ⟨w.heap.size, 0, none⟩ = some (.int .i64 c) ∧ w'.cell? ⟨w.heap.size, 1, none⟩ = some (.int .i64 t) ∧ w'.cell? ⟨w.heap.size, 2, none⟩ = some (.int .i64 x) ∧ w'.cell? ⟨w.heap.size, 3, none⟩ = some (.int .i64 m) ∧ w'.cell? ⟨w.heap.size, 4, none⟩ = some (.int .i64 k) ∧ w'.cell? ⟨w.heap.size, 5, none⟩ = some (.int .i64 e) ∧ w'.cell? ⟨w.heap.size, 6, none⟩ = some (.int .i64 p)) ∧ Below W.heap.size W w')
    (first | exact MK.out _ (bstep (by assumption) (sBel (by assumption))) | exact MK.out _ (Below.refl _ _).drew)
    (first
    | (go_at_call 39; refine (perAll_any c t x m k e _).mono ?_; rintro r w3 ⟨v1, rfl, hv1, hb3⟩; rw [HX.out] at hv1; have hr1 := hv1.nums)
    | (go_at_call 38; have hr2 := hr1; refine (contains_bel xs p v1 _ hr2 HL.out).mono ?_; rintro r w4 ⟨rfl, hb4⟩; rw [HK.out]))
  all_goals
    go_wp2
    go_ret
    exact ⟨rfl, hE.out.trans ((sBel (by assumption)).mono s5)⟩
end
end Go.Proofs.YteibaiflljcghaaDoor
/- Walks of package demand: Of. -/
namespace Go.Proofs.YteibaiflljcghaaDoor
open Go.RowKit Go.Shelf
section
variable (c t x m k e p : Int)
set_option maxHeartbeats 2000000 in
set_option maxRecDepth 100000 in
theorem of9_any (n : Int) (w : World) :
    Calls Tryd.prog 13 #[.agg #[.int .i64 c, .int .i64 t, .int .i64 x, .int .i64 m, .int .i64 k, .int .i64 e, .int .i64 p], .int .i64 n] w fun r w' => r = .returned (.int .i64 (ofV9 ⟨c, t, x, m, k, e, p⟩ n)) ∧ Below w.heap.size w w' := by
  have hS := Sev.new w c t x m k e p
  have hE : Hid (Below w.heap.size w (w.alloc (.cells #[.int .i64 c, .int .i64 t, .int .i64 x, .int .i64 m, .int .i64 k, .int .i64 e, .int .i64 p] 26))) := (Below.refl _ _).alloc (Nat.le_refl _) _
  cases h1 : knB ⟨c, t, x, m, k, e, p⟩ with
  | false =>
    have H1 : Hid (knB ⟨c, t, x, m, k, e, p⟩ = false) := h1
    have H : Hid (ofV9 ⟨c, t, x, m, k, e, p⟩ n = 0) := of9_no (by unfold ofB9; rw [h1]; rfl)
    clear h1
    go_enter Tryd.func13, Tryd.ntmps13
    go_wp2_with fail
    refine (kn_any c t x m k e p _).mono ?_
    rintro r w1 ⟨rfl, hb1⟩
    rw [H1.out]
    go_wp2_with fail
    go_ret
    exact ⟨ret_i H.out.symm, hE.out.trans (hb1.mono hE.out.size)⟩
  | true =>
    have H1 : Hid (knB ⟨c, t, x, m, k, e, p⟩ = true) := h1
    cases h2 : wiB n 0 1099511627776 with
    | false =>
      have H2 : Hid (wiB n 0 1099511627776 = false) := h2
      have H : Hid (ofV9 ⟨c, t, x, m, k, e, p⟩ n = 0) := of9_no (by unfold ofB9; rw [h1, h2]; rfl)
      clear h1 h2
      go_enter Tryd.func13, Tryd.ntmps13
      go_wp2_with fail
      refine (kn_any c t x m k e p _).mono ?_
      rintro r w1 ⟨rfl, hb1⟩
      rw [H1.out]
      go_wp2_with fail
      refine (within9_any n 0 1099511627776 _).mono ?_
      rintro r w2 ⟨rfl, hw2⟩
      obtain rfl := hw2.symm
      rw [H2.out]
      go_wp2_with fail
      go_ret
      exact ⟨ret_i H.out.symm, hE.out.trans (hb1.mono hE.out.size)⟩
    | true =>
      have H2 : Hid (wiB n 0 1099511627776 = true) := h2
      obtain ⟨n0, n1⟩ := of_decide_eq_true (show decide (0 ≤ n ∧ n ≤ 1099511627776) = true from h2)
      obtain ⟨_, c0, c1, c2, p0, p1, x1, m0, m1, k1⟩ := kn_facts h1
      simp only at c0 c1 c2 p0 p1 x1 m0 m1 k1
      have hd : 0 ≤ n / p := Int.ediv_nonneg n0 (by omega)
      have hd1 : n / p ≤ n := Int.ediv_le_self _ n0
      have e1 := of9_yes h1 n0 n1
      simp only at e1
      have hbd := of_bd ⟨c, t, x, m, k, e, p⟩ n
      have q0 : mostV m k (n / p) = du m k (n / p) := mostV_in m0 m1 k1 hd (by omega)
      obtain ⟨d, hdd⟩ : ∃ d, du m k (n / p) = d := ⟨_, rfl⟩
      rw [hdd] at e1 q0
      rw [e1] at hbd
      have H : Hid (ofV9 ⟨c, t, x, m, k, e, p⟩ n = c * d) := e1
      have HM : Hid (mostV m k (n / p) = d) := q0
      obtain ⟨b0, b1, _⟩ := hbd
      have hw : IntKind.i64.wrap (c * d) = c * d := by rw [IntKind.wrap_i64]; omega
      have HP : Hid (1 ≤ p ∧ p ≤ 4611686018427387904 ∧ n ≤ 4611686018427387904) := ⟨by omega, by omega, by omega⟩
      obtain ⟨j, hj⟩ : ∃ j, n / p = j := ⟨_, rfl⟩
      have HJ : Hid (n / p = j) := hj
      rw [hj] at HM
      clear h1 h2 e1 q0 hdd hj hd hd1 c0 c1 c2 p0 p1 x1 m0 m1 k1
      go_enter Tryd.func13, Tryd.ntmps13
      go_wp2_with fail
      refine (kn_any c t x m k e p _).mono ?_
      rintro r w1 ⟨rfl, hb1⟩
      rw [H1.out]
      have hS1 := hS.later hb1
      replace hb1 : Below w.heap.size w w1 := hE.out.trans (hb1.mono hE.out.size)
      obtain ⟨a0, a1, a2, a3, a4, a5, a6⟩ := hS1.fx
      go_wp2_with fail
      refine (within9_any n 0 1099511627776 _).mono ?_
      rintro r w2 ⟨rfl, hw2⟩
      obtain rfl := hw2.symm
      rw [H2.out]
      go_wp2_with fail
      refine (floor_yes n p _ n0 HP.out.2.2 HP.out.1 HP.out.2.1).mono ?_
      rintro r w2 ⟨rfl, hb2⟩
      rw [HJ.out]
      have hS2 := hS1.later hb2
      replace hb2 : Below w.heap.size w w2 := hb1.trans (hb2.mono hb1.size)
      clear hS hS1 hb1 a0 a1 a2 a3 a4 a5 a6
      have MK : Hid (∀ w' : World, Below w2.heap.size w2 w' → (w'.cell? ⟨w.heap.size, 0, none⟩ = some (.int .i64 c) ∧ w'.cell? ⟨w.heap.size, 1, none⟩ = some (.int .i64 t) ∧ w'.cell? ⟨w.heap.size, 2, none⟩ = some (.int .i64 x) ∧ w'.cell? ⟨w.heap.size, 3, none⟩ = some (.int .i64 m) ∧ w'.cell? ⟨w.heap.size, 4, none⟩ = some (.int .i64 k) ∧ w'.cell? ⟨w.heap.size, 5, none⟩ = some (.int .i64 e) ∧ w'.cell? ⟨w.heap.size, 6, none⟩ = some (.int .i64 p)) ∧ Below w2.heap.size w2 w') := fun w' hb => ⟨(hS2.later hb).fx, hb⟩
      clear hS2
      go_wp2_with fail
      go_region_held3 (fun w' => (w'.cell? ⟨w.heap.size, 0, none⟩ = some (.int .i64 c) ∧ w'.cell? ⟨w.heap.size, 1, none⟩ = some (.int .i64 t) ∧ w'.cell? ⟨w.heap.size, 2, none⟩ = some (.int .i64 x) ∧ w'.cell? ⟨w.heap.size, 3, none⟩ = some (.int .i64 m) ∧ w'.cell? ⟨w.heap.size, 4, none⟩ = some (.int .i64 k) ∧ w'.cell? ⟨w.heap.size, 5, none⟩ = some (.int .i64 e) ∧ w'.cell? ⟨w.heap.size, 6, none⟩ = some (.int .i64 p)) ∧ Below w2.heap.size w2 w')
        (first | exact MK.out _ (bstep (by assumption) (sBel (by assumption))) | exact MK.out _ (Below.refl _ _).drew)
        (first
        | (go_at_call 32; refine (most_any m k j _).mono ?_; rintro r w3 ⟨rfl, hb3⟩; rw [HM.out]))
      all_goals
        go_wp2
        go_ret
        exact ⟨ret_i H.out.symm, hb2.trans ((sBel (by assumption)).mono hb2.size)⟩
end
end Go.Proofs.YteibaiflljcghaaDoor
/- Walks of package demand: All, Horizon's sum. -/
namespace Go.Proofs.YteibaiflljcghaaDoor
open Go.RowKit Go.Shelf

theorem allS_succ (l : Nat) (f : Nat → Fx) (n : Int) : allS (l + 1) f n = allS l f n + ofV9 (f l) n := rfl

set_option maxHeartbeats 2000000 in
set_option maxRecDepth 100000 in
theorem all9_any (l : Nat) (f : Nat → Fx) (n : Int) (v : Value) (w : World) (h : Fxs w v l f) :
    Calls Tryd.prog 15 #[v, .int .i64 n] w fun r w' => r = .returned (.int .i64 (allV9 l f n)) ∧ Below w.heap.size w w' := by
  obtain ⟨a, cap, rfl, h1, h2, h0, h3⟩ := h
  by_cases hl : (l : Int) > 1000
  · have H : Hid (allV9 l f n = 0) := if_neg (by omega)
    go_enter Tryd.func15, Tryd.ntmps15
    go_wp2
    go_ret
    exact ⟨ret_i H.out.symm, Below.refl _ _⟩
  · have H : Hid (allV9 l f n = allS l f n) := all9_in (by omega)
    go_enter Tryd.func15, Tryd.ntmps15
    go_wp2_with fail
    go_loopw [5, 13] (fun s i wr => ∃ (j : Nat) (z : Int), j ≤ l ∧ i = .int .i64 j ∧ s = .int .i64 z ∧ 0 ≤ z ∧ z ≤ j * 1099511627776 ∧ Hid (z = allS j f n) ∧ Below w.heap.size w wr) (fun _ i _ => ((l : Int) - intOf i).toNat)
    case atStart => exact ⟨0, 0, by omega, rfl, rfl, by omega, by omega, rfl, Below.refl _ _⟩
    case round =>
      obtain ⟨j, z, hj, rfl, rfl, z0, z1, HZ, hbw⟩ := hrel
      by_cases hlt : (j : Int) < l
      · obtain ⟨bk, o, rfl, h4⟩ := h3 (by omega)
        have hrow := row_open (f := f j) (h4 j (by omega))
        clear h4 h3
        obtain ⟨⟨cj, tj, xj, mj, kj, ej, pj⟩, hf⟩ : ∃ y, f j = y := ⟨_, rfl⟩
        have HF : Hid (f j = ⟨cj, tj, xj, mj, kj, ej, pj⟩) := hf
        rw [hf] at hrow
        clear hf
        obtain ⟨k0, k1, k2, k3, k4, k5, k6⟩ := hrow
        simp only at k0 k1 k2 k3 k4 k5 k6
        have e0 := cell_later hbw k0
        have e1 := cell_later hbw k1
        have e2 := cell_later hbw k2
        have e3 := cell_later hbw k3
        have e4 := cell_later hbw k4
        have e5 := cell_later hbw k5
        have e6 := cell_later hbw k6
        have sb := World.block_lt_of_cell? _ _ k0
        clear k0 k1 k2 k3 k4 k5 k6
        have sw := hbw.size
        have hbox : Below w.heap.size w (wr.alloc (.cells #[.int .i64 cj, .int .i64 tj, .int .i64 xj, .int .i64 mj, .int .i64 kj, .int .i64 ej, .int .i64 pj] 26)) := hbw.alloc sw _
        go_wp2_with fail
        refine (of9_any cj tj xj mj kj ej pj n _).mono ?_
        rintro r w2 ⟨rfl, hb2⟩
        have hb : Below w.heap.size w w2 := hbox.trans (hb2.mono hbox.size)
        obtain ⟨b0, b1, _⟩ := of_bd ⟨cj, tj, xj, mj, kj, ej, pj⟩ n
        have HS : Hid (z + ofV9 ⟨cj, tj, xj, mj, kj, ej, pj⟩ n = allS (j + 1) f n) := by show _ = _; rw [allS_succ, HF.out, ← HZ.out]
        generalize ofV9 ⟨cj, tj, xj, mj, kj, ej, pj⟩ n = y at *
        clear hb2 hbox
        go_wp2_with fail
        go_roundw
        case rel => exact ⟨j + 1, z + y, by omega, by go_num, by go_num, by omega, by omega, HS.out, hb⟩
        case measure => simp [intOf]; omega
      · obtain rfl : j = l := by omega
        go_wp2
        go_ret
        exact ⟨ret_i (by rw [H.out]; exact HZ.out), hbw⟩
end Go.Proofs.YteibaiflljcghaaDoor
/- Walks of package demand: May, Horizon. -/
namespace Go.Proofs.YteibaiflljcghaaDoor
open Go.RowKit Go.Shelf

theorem lst9_succ (n : Nat) (g : Nat → Int) : lst7 (n + 1) g = lst7 n g ++ [g n] := by unfold lst7; rw [List.range_succ, List.map_append]; rfl
theorem un_bd {f : Fx} (h : knB f = true) : 1 ≤ atV f.sp f.p ∧ atV f.sp f.p ≤ 1048576 := by
  obtain ⟨hs, c0, c1, c2, p0, p1, x1, m0, m1, k1⟩ := kn_facts h
  exact at_pos hs p0 p1
theorem fit_uns {l : Nat} {f : Nat → Fx} (h : knAll l f = true) (hl : l ≤ 4) : fitB6 (lst7 l (uns f)) = decide (sm l (uns f) ≤ 983040) := by
  have hs : sumB (lst7 l (uns f)) = true := by
    unfold sumB
    rw [lst7_len, decide_eq_true (show l ≤ 1000 by omega), Bool.true_and, List.all_eq_true]
    intro u hu
    unfold lst7 at hu
    obtain ⟨i, hi, rfl⟩ := List.mem_map.1 hu
    have := un_bd (knAll_of h (List.mem_range.1 hi))
    unfold unB wiB uns
    exact decide_eq_true (by omega)
  unfold fitB6
  rw [hs, sum_yes hs, lst7_sum, Bool.true_and]

set_option maxHeartbeats 2000000 in
set_option maxRecDepth 100000 in
theorem may9_any (l : Nat) (f : Nat → Fx) (v : Value) (w : World) (h : Fxs w v l f) (hL : Lim w) :
    Calls Tryd.prog 11 #[v] w fun r w' => r = .returned (.bool (may9 l f)) ∧ Below w.heap.size w w' := by
  obtain ⟨a, cap, rfl, h1, h2, h0, h3⟩ := h
  have HLim : Hid (Lim w) := hL
  clear hL
  by_cases hl : (l : Int) > 4
  · have H : Hid (may9 l f = false) := may9_long (by omega)
    go_enter Tryd.func11, Tryd.ntmps11
    go_wp2
    go_ret
    exact ⟨ret_b H.out.symm, Below.refl _ _⟩
  · go_enter Tryd.func11, Tryd.ntmps11
    go_wp2_with fail
    go_loopw [3, 11] (fun s i wr => ∃ (j : Nat), j ≤ l ∧ i = .int .i64 j ∧ Hid (∀ i, i < j → knB (f i) = true) ∧ Hid (wr.ownsRow w.heap.size 3 1 s j (ivs (lst7 j (uns f)))) ∧ Below w.heap.size w wr) (fun _ i _ => ((l : Int) - intOf i).toNat)
    case atStart => exact ⟨0, by omega, rfl, fun i hi => by omega, World.ownsRow_nil _ _ _ _, Below.refl _ _⟩
    case round =>
      obtain ⟨j, hj, rfl, HK, HO, hbw⟩ := hrel
      by_cases hlt : (j : Int) < l
      · obtain ⟨bk, o, rfl, h4⟩ := h3 (by omega)
        have hrow := row_open (f := f j) (h4 j (by omega))
        clear h4 h3
        obtain ⟨⟨cj, tj, xj, mj, kj, ej, pj⟩, hf⟩ : ∃ y, f j = y := ⟨_, rfl⟩
        have HF : Hid (f j = ⟨cj, tj, xj, mj, kj, ej, pj⟩) := hf
        rw [hf] at hrow
        clear hf
        obtain ⟨k0, k1, k2, k3, k4, k5, k6⟩ := hrow
        simp only at k0 k1 k2 k3 k4 k5 k6
        have e0 := cell_later hbw k0
        have e1 := cell_later hbw k1
        have e2 := cell_later hbw k2
        have e3 := cell_later hbw k3
        have e4 := cell_later hbw k4
        have e5 := cell_later hbw k5
        have e6 := cell_later hbw k6
        have sb := World.block_lt_of_cell? _ _ k0
        clear k0 k1 k2 k3 k4 k5 k6
        have sw := hbw.size
        have hbox : Below w.heap.size w (wr.alloc (.cells #[.int .i64 cj, .int .i64 tj, .int .i64 xj, .int .i64 mj, .int .i64 kj, .int .i64 ej, .int .i64 pj] 26)) := hbw.alloc sw _
        have hS := Sev.new wr cj tj xj mj kj ej pj
        have HO1 : Hid (World.ownsRow (wr.alloc (.cells #[.int .i64 cj, .int .i64 tj, .int .i64 xj, .int .i64 mj, .int .i64 kj, .int .i64 ej, .int .i64 pj] 26)) w.heap.size 3 1 u3 j (ivs (lst7 j (uns f)))) := HO.out.alloc _
        cases hk : knB ⟨cj, tj, xj, mj, kj, ej, pj⟩ with
        | false =>
          have H1 : Hid (knB ⟨cj, tj, xj, mj, kj, ej, pj⟩ = false) := hk
          have H : Hid (may9 l f = false) := may9_kn (knAll_no (i := j) (by omega) (by rw [HF.out]; exact hk))
          clear hk
          go_wp2_with fail
          refine (kn_any cj tj xj mj kj ej pj _).mono ?_
          rintro r w2 ⟨rfl, hb2⟩
          rw [H1.out]
          go_wp2_with fail
          go_ret
          exact ⟨ret_b H.out.symm, hbox.trans (hb2.mono hbox.size)⟩
        | true =>
          have H1 : Hid (knB ⟨cj, tj, xj, mj, kj, ej, pj⟩ = true) := hk
          have HK2 : Hid (∀ i, i < j + 1 → knB (f i) = true) := by
            intro i hi
            by_cases c : i = j
            · subst c; rw [HF.out]; exact hk
            · exact HK.out i (by omega)
          clear hk
          go_wp2_with fail
          refine (kn_any cj tj xj mj kj ej pj _).mono ?_
          rintro r w2 ⟨rfl, hb2⟩
          rw [H1.out]
          have hS2 := hS.later hb2
          have HO2 : Hid (w2.ownsRow w.heap.size 3 1 u3 j (ivs (lst7 j (uns f)))) := own_laterF HO1.out hb2
          replace hb2 : Below w.heap.size w w2 := hbox.trans (hb2.mono hbox.size)
          obtain ⟨a0, a1, a2, a3, a4, a5, a6⟩ := hS2.fx
          clear hS hbox HO1 HO hbw
          go_wp2_with fail
          refine (at_any cj tj xj mj kj ej pj _).mono ?_
          rintro r w3 ⟨rfl, hb3⟩
          have hown3 := own_laterF HO2.out hb3
          replace hb3 : Below w.heap.size w w3 := hb2.trans (hb3.mono hb2.size)
          have HU : Hid (uns f j = atV ⟨cj, tj, xj, mj, kj, ej⟩ pj) := by show _ = _; unfold uns; rw [HF.out]; rfl
          generalize atV ⟨cj, tj, xj, mj, kj, ej⟩ pj = y at *
          have s3 := hb3.size
          have hown1 := hown3.alloc (.cells #[.int .i64 y] 3)
          have hlit := nums_one w3 y
          have hnc : NilCap (.slice (some ⟨w3.heap.size, 0, none⟩) 1 1) := fun c h => by simp at h
          clear hown3 HO2 hS2 a0 a1 a2 a3 a4 a5 a6 hb2
          go_wp2_with (first
            | (at_builtin; refine append_nums rfl _ _ rfl w.heap.size _ _ _ _ [y] rfl hown1 rfl hlit hnc (by simp; omega) (by simp; omega) ?_))
          intro v' w4 hown' _ hb4
          have HO4 : Hid (w4.ownsRow w.heap.size 3 1 v' (j + 1) (ivs (lst7 (j + 1) (uns f)))) := by show World.ownsRow _ _ _ _ _ _ _; rw [lst9_succ, HU.out]; exact hown'
          have HB4 : Hid (Below w.heap.size w w4) := (hb3.alloc s3 _).trans hb4
          clear hown' hown1 hlit hnc hb4
          go_wp2_with fail
          go_roundw
          case rel => exact ⟨j + 1, by omega, by go_num, HK2.out, HO4.out, HB4.out⟩
          case measure => simp [intOf]; omega
      · obtain rfl : j = l := by omega
        have hka : knAll j f = true := knAll_yes HK.out
        have HM : Hid (fitB6 (lst7 j (uns f)) = may9 j f) := by
          show _ = _
          rw [fit_uns hka (by omega)]
          unfold may9
          rw [hka, decide_eq_true (show j ≤ 4 by omega)]; rfl
        have hN := (Nums.own HO.out).1
        clear hka
        go_wp2_with fail
        refine (fits_any (lst7 j (uns f)) _ _ hN (HLim.out.later hbw)).mono ?_
        rintro r w2 ⟨rfl, hw2⟩
        obtain rfl := hw2.symm
        rw [HM.out]
        go_wp2_with fail
        go_ret
        exact ⟨rfl, hbw⟩

theorem cl_16 (s : Int) : cl (s * 1048576) 65536 = 16 * s := by unfold cl; rw [if_pos (by omega)]; omega
theorem cs_bd {l : Nat} {f : Nat → Fx} (h : knAll l f = true) : ∀ j, j ≤ l → 0 ≤ sm j (csF f) ∧ sm j (csF f) ≤ j * 6 := by
  intro j hj
  refine ⟨sm_nn9 fun i hi => ?_, ?_⟩
  · have := kn_facts (knAll_of h (show i < l by omega)); unfold csF; omega
  · rw [← sm_const]
    exact sm_le fun i hi => by have := kn_facts (knAll_of h (show i < l by omega)); unfold csF; omega

set_option maxHeartbeats 2000000 in
set_option maxRecDepth 100000 in
theorem hor9_any (l : Nat) (f : Nat → Fx) (v : Value) (w : World) (h : Fxs w v l f) (hL : Lim w) :
    Calls Tryd.prog 17 #[v] w fun r w' => r = .returned (.int .i64 (hor9 l f)) ∧ Below w.heap.size w w' := by
  have HMay := may9_any l f v w h hL
  clear hL
  obtain ⟨a, cap, rfl, h1, h2, h0, h3⟩ := h
  cases hm : may9 l f with
  | false =>
    have HM : Hid (may9 l f = false) := hm
    have H : Hid (hor9 l f = 0) := hor9_no hm
    clear hm
    go_enter Tryd.func17, Tryd.ntmps17
    go_wp2_with fail
    refine HMay.mono ?_
    rintro r w1 ⟨rfl, hb1⟩
    rw [HM.out]
    go_wp2_with fail
    go_ret
    exact ⟨ret_i H.out.symm, hb1⟩
  | true =>
    have HM : Hid (may9 l f = true) := hm
    have H : Hid (hor9 l f = 16 * sm l (csF f)) := hor9_yes hm
    obtain ⟨l4, hk, _⟩ := may9_facts hm
    have HC : Hid (∀ j, j ≤ l → 0 ≤ sm j (csF f) ∧ sm j (csF f) ≤ j * 6) := cs_bd hk
    clear hm hk
    go_enter Tryd.func17, Tryd.ntmps17
    go_wp2_with fail
    refine HMay.mono ?_
    rintro r w1 ⟨rfl, hb1⟩
    rw [HM.out]
    clear HMay
    go_wp2_with fail
    go_loopw [3, 13] (fun s i wr => ∃ (j : Nat) (z : Int), j ≤ l ∧ i = .int .i64 j ∧ s = .int .i64 z ∧ 0 ≤ z ∧ z ≤ j * 6 ∧ Hid (z = sm j (csF f)) ∧ Below w.heap.size w wr) (fun _ i _ => ((l : Int) - intOf i).toNat)
    case atStart => exact ⟨0, 0, by omega, rfl, rfl, by omega, by omega, rfl, hb1⟩
    case round =>
      obtain ⟨j, z, hj, rfl, rfl, z0, z1, HZ, hbw⟩ := hrel
      by_cases hlt : (j : Int) < l
      · obtain ⟨bk, o, rfl, h4⟩ := h3 (by omega)
        have hrow := row_open (f := f j) (h4 j (by omega))
        clear h4 h3
        obtain ⟨⟨cj, tj, xj, mj, kj, ej, pj⟩, hf⟩ : ∃ y, f j = y := ⟨_, rfl⟩
        have HF : Hid (f j = ⟨cj, tj, xj, mj, kj, ej, pj⟩) := hf
        rw [hf] at hrow
        clear hf
        obtain ⟨k0, k1, k2, k3, k4, k5, k6⟩ := hrow
        simp only at k0 k1 k2 k3 k4 k5 k6
        have e0 := cell_later hbw k0
        have e1 := cell_later hbw k1
        have e2 := cell_later hbw k2
        have e3 := cell_later hbw k3
        have e4 := cell_later hbw k4
        have e5 := cell_later hbw k5
        have e6 := cell_later hbw k6
        have sb := World.block_lt_of_cell? _ _ k0
        clear k0 k1 k2 k3 k4 k5 k6
        have sw := hbw.size
        have hbox : Below w.heap.size w (wr.alloc (.cells #[.int .i64 cj, .int .i64 tj, .int .i64 xj, .int .i64 mj, .int .i64 kj, .int .i64 ej, .int .i64 pj] 26)) := hbw.alloc sw _
        have HS : Hid (z + cj = sm (j + 1) (csF f)) := by show _ = sm j (csF f) + csF f j; rw [← HZ.out]; unfold csF; rw [HF.out]
        have hc := HC.out (j + 1) (by omega)
        rw [← HS.out] at hc
        obtain ⟨y0, y1⟩ := hc
        go_wp2_with fail
        go_roundw
        case rel => exact ⟨j + 1, z + cj, by omega, by go_num, by go_num, by omega, by omega, HS.out, hbox⟩
        case measure => simp [intOf]; omega
      · obtain rfl : j = l := by omega
        go_wp2_with fail
        refine (ceil_yes (z * 1048576) 65536 _ (by omega) (by omega) (by omega) (by omega)).mono ?_
        rintro r w2 ⟨rfl, hb2⟩
        rw [cl_16]
        go_wp2_with fail
        go_ret
        exact ⟨ret_i (by rw [H.out, ← HZ.out]), hbw.trans (hb2.mono hbw.size)⟩
end Go.Proofs.YteibaiflljcghaaDoor
/- Walks of package demand: First, Test. -/
namespace Go.Proofs.YteibaiflljcghaaDoor
open Go.RowKit Go.Shelf

/-- What is known of those from z on. -/
def DwF (g : Int → Int) (h z r : Int) : Prop := (r = 0 ∧ ∀ i, z ≤ i → 1 ≤ i → i < h → g i ≤ i) ∨ (1 ≤ r ∧ z ≤ r ∧ r < h ∧ r < g r ∧ ∀ i, z ≤ i → 1 ≤ i → i < r → g i ≤ i)
theorem DwF.start (g : Int → Int) (h : Int) : DwF g h h 0 := .inl ⟨rfl, fun i _ _ _ => by omega⟩
theorem DwF.stop {g : Int → Int} {h z r : Int} (hd : DwF g h z r) (hz : z ≤ 1) : IsFst g h r := by
  rcases hd with ⟨rfl, h1⟩ | ⟨r0, r1, r2, r3, r4⟩
  · exact .inl ⟨rfl, fun i i0 i1 => h1 i (by omega) i0 i1⟩
  · exact .inr ⟨r0, r2, r3, fun i i0 i1 => r4 i (by omega) i0 i1⟩
theorem DwF.yes {g : Int → Int} {h z : Int} (hz : 2 ≤ z) (hh : z ≤ h) (hg : z - 1 < g (z - 1)) : DwF g h (z - 1) (z - 1) :=
  .inr ⟨by omega, by omega, by omega, hg, fun i i0 _ i1 => by omega⟩
theorem DwF.no {g : Int → Int} {h z r : Int} (hd : DwF g h z r) (hg : g (z - 1) ≤ z - 1) : DwF g h (z - 1) r := by
  rcases hd with ⟨rfl, h1⟩ | ⟨r0, r1, r2, r3, r4⟩
  · refine .inl ⟨rfl, fun i i0 i1 i2 => ?_⟩
    by_cases c : i = z - 1
    · subst c; exact hg
    · exact h1 i (by omega) i1 i2
  · refine .inr ⟨r0, by omega, r2, r3, fun i i0 i1 i2 => ?_⟩
    by_cases c : i = z - 1
    · subst c; exact hg
    · exact r4 i (by omega) i1 i2

set_option maxHeartbeats 4000000 in
set_option maxRecDepth 1000000 in
theorem first9_any (l : Nat) (f : Nat → Fx) (v : Value) (w : World) (h : Fxs w v l f) (hL : Lim w) :
    Calls Tryd.prog 19 #[v] w fun r w' => r = .returned (.int .i64 (first9 l f)) ∧ Below w.heap.size w w' := by
  have HF : Hid (Fxs w v l f) := h
  obtain ⟨g0, g1⟩ := hor9_nonneg l f
  obtain ⟨h9, hh⟩ : ∃ h9, hor9 l f = h9 := ⟨_, rfl⟩
  have HH : Hid (hor9 l f = h9) := hh
  rw [hh] at g0 g1
  clear hh
  have HHor := hor9_any l f v w h hL
  clear h hL
  go_enter Tryd.func19, Tryd.ntmps19
  go_wp2_with fail
  refine wp_scope_jumps 0 (fun a' w' => ∃ (z r : Int) (u5 u6 u7 u8 u9 u10 u11 u12 u13 u14 u15 u16 u17 : Value), a' = { tmps := #[v, undef, .int .i64 0, .int .i64 r, .int .i64 z, u5, u6, u7, u8, u9, u10, u11, u12, u13, u14, u15, u16, u17], defers := [] } ∧ 0 ≤ z ∧ z ≤ h9 ∧ 0 ≤ r ∧ r ≤ 384 ∧ Hid (DwF (allV9 l f) h9 z r) ∧ Below w.heap.size w w') (fun a' _ => (intOf (a'.tmps.getD 4 undef)).toNat) rfl ?_ ?_
  · go_wp2_with fail
    refine HHor.mono ?_
    rintro r9 w1 ⟨rfl, hb1⟩
    rw [HH.out]
    clear HHor
    have HD : Hid (DwF (allV9 l f) h9 h9 0) := DwF.start _ _
    go_wp2_with fail
    go_step3
    by_cases c1 : h9 - 1 < 1
    · have HR : Hid (first9 l f = 0) := first9_eq (by rw [HH.out]; exact DwF.stop HD.out (by omega))
      go_wp2_with fail
      simp only [Exit.jump]
      go_ret
      exact ⟨ret_i HR.out.symm, hb1⟩
    · go_wp2_with fail
      refine (all9_any l f (h9 - 1) v _ (HF.out.later hb1)).mono ?_
      rintro r9 w5 ⟨rfl, hb5⟩
      replace hb5 : Below w.heap.size w w5 := hb1.trans (hb5.mono hb1.size)
      obtain ⟨y, hy⟩ : ∃ y, allV9 l f (h9 - 1) = y := ⟨_, rfl⟩
      have HY : Hid (allV9 l f (h9 - 1) = y) := hy
      rw [hy]
      clear hy
      by_cases c2 : y > h9 - 1
      · have HD2 : Hid (DwF (allV9 l f) h9 (h9 - 1) (h9 - 1)) := DwF.yes (by omega) (by omega) (by rw [HY.out]; exact c2)
        go_wp2_with fail
        go_step3
        exact ⟨rfl, ⟨h9 - 1, h9 - 1, _, _, _, _, _, _, _, _, _, _, _, _, _, rfl, by omega, by omega, by omega, by omega, HD2.out, hb5⟩⟩
      · have HD2 : Hid (DwF (allV9 l f) h9 (h9 - 1) 0) := DwF.no HD.out (by rw [HY.out]; omega)
        go_wp2_with fail
        go_step3
        exact ⟨rfl, ⟨h9 - 1, 0, _, _, _, _, _, _, _, _, _, _, _, _, _, rfl, by omega, by omega, by omega, by omega, HD2.out, hb5⟩⟩
  · clear HHor
    rintro a' w1 ⟨z, r, u5, u6, u7, u8, u9, u10, u11, u12, u13, u14, u15, u16, u17, rfl, z0, z1, r0, r1, HD, hb1⟩
    by_cases c1 : z - 1 < 1
    · have HR : Hid (first9 l f = r) := first9_eq (by rw [HH.out]; exact DwF.stop HD.out (by omega))
      go_wp2_with fail
      simp only [Exit.jump]
      go_ret
      exact ⟨ret_i HR.out.symm, hb1⟩
    · go_wp2_with fail
      refine (all9_any l f (z - 1) v _ (HF.out.later hb1)).mono ?_
      rintro r9 w5 ⟨rfl, hb5⟩
      replace hb5 : Below w.heap.size w w5 := hb1.trans (hb5.mono hb1.size)
      obtain ⟨y, hy⟩ : ∃ y, allV9 l f (z - 1) = y := ⟨_, rfl⟩
      have HY : Hid (allV9 l f (z - 1) = y) := hy
      rw [hy]
      clear hy
      by_cases c2 : y > z - 1
      · have HD2 : Hid (DwF (allV9 l f) h9 (z - 1) (z - 1)) := DwF.yes (by omega) (by omega) (by rw [HY.out]; exact c2)
        go_wp2_with fail
        go_step3
        refine ⟨rfl, ⟨z - 1, z - 1, _, _, _, _, _, _, _, _, _, _, _, _, _, rfl, by omega, by omega, by omega, by omega, HD2.out, hb5⟩, ?_⟩
        simp [intOf]; omega
      · have HD2 : Hid (DwF (allV9 l f) h9 (z - 1) r) := DwF.no HD.out (by rw [HY.out]; omega)
        go_wp2_with fail
        go_step3
        refine ⟨rfl, ⟨z - 1, r, _, _, _, _, _, _, _, _, _, _, _, _, _, rfl, by omega, by omega, by omega, by omega, HD2.out, hb5⟩, ?_⟩
        simp [intOf]; omega

set_option maxHeartbeats 2000000 in
set_option maxRecDepth 100000 in
theorem test9_any (l : Nat) (f : Nat → Fx) (v : Value) (w : World) (h : Fxs w v l f) (hL : Lim w) :
    Calls Tryd.prog 21 #[v] w fun r w' => r = .returned (.bool (tst9 l f)) ∧ Below w.heap.size w w' := by
  cases hm : may9 l f with
  | false =>
    have HM : Hid (may9 l f = false) := hm
    have H : Hid (tst9 l f = false) := by show _ = _; unfold tst9; rw [hm]; rfl
    clear hm
    go_enter Tryd.func21, Tryd.ntmps21
    go_wp2_with fail
    refine (may9_any l f v _ h hL).mono ?_
    rintro r w1 ⟨rfl, hb1⟩
    rw [HM.out]
    go_wp2_with fail
    go_ret
    exact ⟨ret_b H.out.symm, hb1⟩
  | true =>
    have HM : Hid (may9 l f = true) := hm
    have H : Hid (tst9 l f = decide (first9 l f = 0)) := by show _ = _; unfold tst9; rw [hm]; rfl
    clear hm
    go_enter Tryd.func21, Tryd.ntmps21
    go_wp2_with fail
    refine (may9_any l f v _ h hL).mono ?_
    rintro r w1 ⟨rfl, hb1⟩
    rw [HM.out]
    go_wp2_with fail
    refine (first9_any l f v _ (h.later hb1) (hL.later hb1)).mono ?_
    rintro r w2 ⟨rfl, hb2⟩
    go_wp2_with fail
    go_ret
    exact ⟨ret_b (by rw [H.out]; first | rfl | simp), hb1.trans (hb2.mono hb1.size)⟩
end Go.Proofs.YteibaiflljcghaaDoor
/- Walks of the document's own answers of chapter 9: may, Of, All. -/
namespace Go.Proofs.YteibaiflljcghaaDoor
open Go.RowKit Go.Shelf
section
variable (c t x m k e p : Int)
set_option maxHeartbeats 2000000 in
set_option maxRecDepth 100000 in
theorem rmay9_any (w : World) :
    Calls Tryd.prog 28 #[.agg #[.int .i64 c, .int .i64 t, .int .i64 x, .int .i64 m, .int .i64 k, .int .i64 e, .int .i64 p]] w fun r w' => r = .returned (.bool (knB ⟨c, t, x, m, k, e, p⟩)) ∧ Below w.heap.size w w' := by
  have hS := Sev.new w c t x m k e p
  have hE : Hid (Below w.heap.size w (w.alloc (.cells #[.int .i64 c, .int .i64 t, .int .i64 x, .int .i64 m, .int .i64 k, .int .i64 e, .int .i64 p] 26))) := (Below.refl _ _).alloc (Nat.le_refl _) _
  cases h1 : maySp ⟨c, t, x, m, k, e⟩ with
  | false =>
    have H1 : Hid (maySp ⟨c, t, x, m, k, e⟩ = false) := h1
    have H : Hid (knB ⟨c, t, x, m, k, e, p⟩ = false) := by show _ = _; unfold knB Fx.sp; simp only; rw [h1]; rfl
    clear h1
    go_enter Tryd.func28, Tryd.ntmps28
    go_wp2_with fail
    refine (refSp_any c t x m k e _).mono ?_
    rintro r w1 ⟨rfl, hb1⟩
    rw [H1.out]
    go_wp2_with fail
    go_ret
    exact ⟨ret_b H.out.symm, hE.out.trans (hb1.mono hE.out.size)⟩
  | true =>
    have H1 : Hid (maySp ⟨c, t, x, m, k, e⟩ = true) := h1
    have H : Hid (knB ⟨c, t, x, m, k, e, p⟩ = decide (t ≤ p ∧ p ≤ x)) := by show _ = _; unfold knB Fx.sp; simp only; rw [h1]; rfl
    clear h1
    by_cases c0 : t ≤ p
    · have H2 : Hid (knB ⟨c, t, x, m, k, e, p⟩ = decide (p ≤ x)) := by show _ = _; rw [H.out]; simp [c0]
      go_enter Tryd.func28, Tryd.ntmps28
      go_wp2_with fail
      refine (refSp_any c t x m k e _).mono ?_
      rintro r w1 ⟨rfl, hb1⟩
      rw [H1.out]
      obtain ⟨a0, a1, a2, a3, a4, a5, a6⟩ := (hS.later hb1).fx
      go_wp2_with fail
      go_ret
      exact ⟨ret_b (by rw [H2.out]), hE.out.trans (hb1.mono hE.out.size)⟩
    · have H2 : Hid (knB ⟨c, t, x, m, k, e, p⟩ = false) := by show _ = _; rw [H.out]; simp [c0]
      go_enter Tryd.func28, Tryd.ntmps28
      go_wp2_with fail
      refine (refSp_any c t x m k e _).mono ?_
      rintro r w1 ⟨rfl, hb1⟩
      rw [H1.out]
      obtain ⟨a0, a1, a2, a3, a4, a5, a6⟩ := (hS.later hb1).fx
      go_wp2_with fail
      go_ret
      exact ⟨ret_b (by rw [H2.out]), hE.out.trans (hb1.mono hE.out.size)⟩

theorem refMost_bel (a b n : Int) (w : World) :
    Calls Tryd.prog 33 #[.int .i64 a, .int .i64 b, .int .i64 n] w fun r w' => r = .returned (.int .i64 (mostV a b n)) ∧ Below w.heap.size w w' := by
  refine (refMost_any a b n w).mono ?_
  rintro r w' ⟨rfl, rfl⟩
  exact ⟨rfl, Below.refl _ _⟩

set_option maxHeartbeats 2000000 in
set_option maxRecDepth 100000 in
theorem rof9_any (n : Int) (w : World) :
    Calls Tryd.prog 14 #[.agg #[.int .i64 c, .int .i64 t, .int .i64 x, .int .i64 m, .int .i64 k, .int .i64 e, .int .i64 p], .int .i64 n] w fun r w' => r = .returned (.int .i64 (ofV9 ⟨c, t, x, m, k, e, p⟩ n)) ∧ Below w.heap.size w w' := by
  have hS := Sev.new w c t x m k e p
  have hE : Hid (Below w.heap.size w (w.alloc (.cells #[.int .i64 c, .int .i64 t, .int .i64 x, .int .i64 m, .int .i64 k, .int .i64 e, .int .i64 p] 26))) := (Below.refl _ _).alloc (Nat.le_refl _) _
  cases h1 : knB ⟨c, t, x, m, k, e, p⟩ with
  | false =>
    have H1 : Hid (knB ⟨c, t, x, m, k, e, p⟩ = false) := h1
    have H : Hid (ofV9 ⟨c, t, x, m, k, e, p⟩ n = 0) := of9_no (by unfold ofB9; rw [h1]; rfl)
    clear h1
    go_enter Tryd.func14, Tryd.ntmps14
    go_wp2_with fail
    refine (rmay9_any c t x m k e p _).mono ?_
    rintro r w1 ⟨rfl, hb1⟩
    rw [H1.out]
    go_wp2_with fail
    go_ret
    exact ⟨ret_i H.out.symm, hE.out.trans (hb1.mono hE.out.size)⟩
  | true =>
    have H1 : Hid (knB ⟨c, t, x, m, k, e, p⟩ = true) := h1
    by_cases h2 : 0 ≤ n ∧ n ≤ 1099511627776
    · obtain ⟨n0, n1⟩ := h2
      obtain ⟨_, c0, c1, c2, p0, p1, x1, m0, m1, k1⟩ := kn_facts h1
      simp only at c0 c1 c2 p0 p1 x1 m0 m1 k1
      have hd : 0 ≤ n / p := Int.ediv_nonneg n0 (by omega)
      have hd1 : n / p ≤ n := Int.ediv_le_self _ n0
      have e1 := of9_yes h1 n0 n1
      simp only at e1
      have hbd := of_bd ⟨c, t, x, m, k, e, p⟩ n
      have q0 : mostV m k (n / p) = du m k (n / p) := mostV_in m0 m1 k1 hd (by omega)
      obtain ⟨d, hdd⟩ : ∃ d, du m k (n / p) = d := ⟨_, rfl⟩
      rw [hdd] at e1 q0
      rw [e1] at hbd
      have H : Hid (ofV9 ⟨c, t, x, m, k, e, p⟩ n = c * d) := e1
      have HM : Hid (mostV m k (n / p) = d) := q0
      obtain ⟨b0, b1, _⟩ := hbd
      have hw : IntKind.i64.wrap (c * d) = c * d := by rw [IntKind.wrap_i64]; omega
      have hp0 : 0 < p := by omega
      have hp1 : p ≠ 0 := by omega
      have hdiv : n.tdiv p = n / p := Int.tdiv_eq_ediv_of_nonneg n0
      obtain ⟨j, hj⟩ : ∃ j, n / p = j := ⟨_, rfl⟩
      rw [hj] at hdiv HM hd hd1
      have hw1 : IntKind.i64.wrap j = j := by rw [IntKind.wrap_i64]; omega
      have hbeq : (p == 0) = false := by simp [hp1]
      clear h1 e1 q0 hdd hj
      go_enter Tryd.func14, Tryd.ntmps14
      go_wp2_with fail
      refine (rmay9_any c t x m k e p _).mono ?_
      rintro r w2 ⟨rfl, hb2⟩
      rw [H1.out]
      have hS2 := hS.later hb2
      replace hb2 : Below w.heap.size w w2 := hE.out.trans (hb2.mono hE.out.size)
      have MK : Hid (∀ w' : World, Below w2.heap.size w2 w' → (w'.cell? ⟨w.heap.size, 0, none⟩ = some (.int .i64 c) ∧ w'.cell? ⟨w.heap.size, 1, none⟩ = some (.int .i64 t) ∧ w'.cell? ⟨w.heap.size, 2, none⟩ = some (.int .i64 x) ∧ w'.cell? ⟨w.heap.size, 3, none⟩ = some (.int .i64 m) ∧ w'.cell? ⟨w.heap.size, 4, none⟩ = some (.int .i64 k) ∧ w'.cell? ⟨w.heap.size, 5, none⟩ = some (.int .i64 e) ∧ w'.cell? ⟨w.heap.size, 6, none⟩ = some (.int .i64 p)) ∧ Below w2.heap.size w2 w') := fun w' hb => ⟨(hS2.later hb).fx, hb⟩
      clear hS2 hS
      go_wp2_with fail
      go_region_held3 (fun w' => (w'.cell? ⟨w.heap.size, 0, none⟩ = some (.int .i64 c) ∧ w'.cell? ⟨w.heap.size, 1, none⟩ = some (.int .i64 t) ∧ w'.cell? ⟨w.heap.size, 2, none⟩ = some (.int .i64 x) ∧ w'.cell? ⟨w.heap.size, 3, none⟩ = some (.int .i64 m) ∧ w'.cell? ⟨w.heap.size, 4, none⟩ = some (.int .i64 k) ∧ w'.cell? ⟨w.heap.size, 5, none⟩ = some (.int .i64 e) ∧ w'.cell? ⟨w.heap.size, 6, none⟩ = some (.int .i64 p)) ∧ Below w2.heap.size w2 w')
        (first | exact MK.out _ (bstep (by assumption) (sBel (by assumption))) | exact MK.out _ (Below.refl _ _).drew)
        (first
        | (go_at_call 33; refine (refMost_bel m k j _).mono ?_; rintro r w3 ⟨rfl, hb3⟩; rw [HM.out]))
      all_goals
        go_wp2
        go_ret
        exact ⟨ret_i H.out.symm, hb2.trans ((sBel (by assumption)).mono hb2.size)⟩
    · have H : Hid (ofV9 ⟨c, t, x, m, k, e, p⟩ n = 0) := of9_no (by unfold ofB9; rw [show wiB n 0 1099511627776 = false from decide_eq_false h2]; simp)
      clear h1
      by_cases h3 : n < 0
      · go_enter Tryd.func14, Tryd.ntmps14
        go_wp2_with fail
        refine (rmay9_any c t x m k e p _).mono ?_
        rintro r w1 ⟨rfl, hb1⟩
        rw [H1.out]
        go_wp2_with fail
        go_ret
        exact ⟨ret_i H.out.symm, hE.out.trans (hb1.mono hE.out.size)⟩
      · have h4 : n > 1099511627776 := by omega
        clear h2
        go_enter Tryd.func14, Tryd.ntmps14
        go_wp2_with fail
        refine (rmay9_any c t x m k e p _).mono ?_
        rintro r w1 ⟨rfl, hb1⟩
        rw [H1.out]
        go_wp2_with fail
        go_ret
        exact ⟨ret_i H.out.symm, hE.out.trans (hb1.mono hE.out.size)⟩
end

set_option maxHeartbeats 2000000 in
set_option maxRecDepth 100000 in
theorem rall9_any (l : Nat) (f : Nat → Fx) (n : Int) (v : Value) (w : World) (h : Fxs w v l f) :
    Calls Tryd.prog 16 #[v, .int .i64 n] w fun r w' => r = .returned (.int .i64 (allV9 l f n)) ∧ Below w.heap.size w w' := by
  obtain ⟨a, cap, rfl, h1, h2, h0, h3⟩ := h
  by_cases hl : (l : Int) ≤ 1000
  · have H : Hid (allV9 l f n = allS l f n) := all9_in (by omega)
    go_enter Tryd.func16, Tryd.ntmps16
    go_wp2_with fail
    go_loopw [5, 6] (fun s i wr => ∃ (j : Nat) (z : Int), j ≤ l ∧ i = .int .i64 j ∧ s = .int .i64 z ∧ 0 ≤ z ∧ z ≤ j * 1099511627776 ∧ Hid (z = allS j f n) ∧ Below w.heap.size w wr) (fun _ i _ => ((l : Int) - intOf i).toNat)
    case atStart => exact ⟨0, 0, by omega, rfl, rfl, by omega, by omega, rfl, Below.refl _ _⟩
    case round =>
      obtain ⟨j, z, hj, rfl, rfl, z0, z1, HZ, hbw⟩ := hrel
      by_cases hlt : (j : Int) < l
      · obtain ⟨bk, o, rfl, h4⟩ := h3 (by omega)
        have hrow := row_open (f := f j) (h4 j (by omega))
        clear h4 h3
        obtain ⟨⟨cj, tj, xj, mj, kj, ej, pj⟩, hf⟩ : ∃ y, f j = y := ⟨_, rfl⟩
        have HF : Hid (f j = ⟨cj, tj, xj, mj, kj, ej, pj⟩) := hf
        rw [hf] at hrow
        clear hf
        obtain ⟨k0, k1, k2, k3, k4, k5, k6⟩ := hrow
        simp only at k0 k1 k2 k3 k4 k5 k6
        have e0 := cell_later hbw k0
        have e1 := cell_later hbw k1
        have e2 := cell_later hbw k2
        have e3 := cell_later hbw k3
        have e4 := cell_later hbw k4
        have e5 := cell_later hbw k5
        have e6 := cell_later hbw k6
        have sb := World.block_lt_of_cell? _ _ k0
        clear k0 k1 k2 k3 k4 k5 k6
        have sw := hbw.size
        go_wp2_with fail
        refine (rof9_any cj tj xj mj kj ej pj n _).mono ?_
        rintro r w2 ⟨rfl, hb2⟩
        have hb : Below w.heap.size w w2 := hbw.trans (hb2.mono sw)
        obtain ⟨b0, b1, _⟩ := of_bd ⟨cj, tj, xj, mj, kj, ej, pj⟩ n
        have HS : Hid (z + ofV9 ⟨cj, tj, xj, mj, kj, ej, pj⟩ n = allS (j + 1) f n) := by show _ = _; rw [allS_succ, HF.out, ← HZ.out]
        generalize ofV9 ⟨cj, tj, xj, mj, kj, ej, pj⟩ n = y at *
        clear hb2
        go_wp2_with fail
        go_roundw
        case rel => exact ⟨j + 1, z + y, by omega, by go_num, by go_num, by omega, by omega, HS.out, hb⟩
        case measure => simp [intOf]; omega
      · obtain rfl : j = l := by omega
        go_wp2
        go_ret
        exact ⟨ret_i (by rw [H.out]; exact HZ.out), hbw⟩
  · have H : Hid (allV9 l f n = 0) := if_neg (by omega)
    clear h3
    go_enter Tryd.func16, Tryd.ntmps16
    go_wp2_with fail
    go_loopw [5, 6] (fun s i wr => i = .int .i64 0 ∧ s = .int .i64 0 ∧ Below w.heap.size w wr) (fun _ _ _ => 0)
    case atStart => exact ⟨rfl, rfl, Below.refl _ _⟩
    case round =>
      obtain ⟨rfl, rfl, hbw⟩ := hrel
      have hp : (0 : Int) < l := by omega
      go_wp2
      go_ret
      exact ⟨ret_i H.out.symm, hbw⟩
end Go.Proofs.YteibaiflljcghaaDoor
/- Walks of the document's own answers of chapter 9: May, Horizon, First, Test. -/
namespace Go.Proofs.YteibaiflljcghaaDoor
open Go.RowKit Go.Shelf

set_option maxHeartbeats 2000000 in
set_option maxRecDepth 100000 in
theorem rmayL_any (l : Nat) (f : Nat → Fx) (v : Value) (w : World) (h : Fxs w v l f) (hl : l ≤ 1100) :
    Calls Tryd.prog 12 #[v] w fun r w' => r = .returned (.bool (may9 l f)) ∧ Below w.heap.size w w' := by
  obtain ⟨a, cap, rfl, h1, h2, h0, h3⟩ := h
  go_enter Tryd.func12, Tryd.ntmps12
  go_wp2_with fail
  go_loopw [3, 4] (fun s i wr => ∃ (j : Nat) (z : Int), j ≤ l ∧ i = .int .i64 j ∧ s = .int .i64 z ∧ 0 ≤ z ∧ z ≤ j * 1048576 ∧ Hid (z = sm j (uns f)) ∧ Hid (∀ i, i < j → knB (f i) = true) ∧ Below w.heap.size w wr) (fun _ i _ => ((l : Int) - intOf i).toNat)
  case atStart => exact ⟨0, 0, by omega, rfl, rfl, by omega, by omega, rfl, fun i hi => by omega, Below.refl _ _⟩
  case round =>
    obtain ⟨j, z, hj, rfl, rfl, z0, z1, HZ, HK, hbw⟩ := hrel
    by_cases hlt : (j : Int) < l
    · obtain ⟨bk, o, rfl, h4⟩ := h3 (by omega)
      have hrow := row_open (f := f j) (h4 j (by omega))
      clear h4 h3
      obtain ⟨⟨cj, tj, xj, mj, kj, ej, pj⟩, hf⟩ : ∃ y, f j = y := ⟨_, rfl⟩
      have HF : Hid (f j = ⟨cj, tj, xj, mj, kj, ej, pj⟩) := hf
      rw [hf] at hrow
      clear hf
      obtain ⟨k0, k1, k2, k3, k4, k5, k6⟩ := hrow
      simp only at k0 k1 k2 k3 k4 k5 k6
      have e0 := cell_later hbw k0
      have e1 := cell_later hbw k1
      have e2 := cell_later hbw k2
      have e3 := cell_later hbw k3
      have e4 := cell_later hbw k4
      have e5 := cell_later hbw k5
      have e6 := cell_later hbw k6
      have sb := World.block_lt_of_cell? _ _ k0
      clear k0 k1 k2 k3 k4 k5 k6
      have sw := hbw.size
      cases hk : knB ⟨cj, tj, xj, mj, kj, ej, pj⟩ with
      | false =>
        have H1 : Hid (knB ⟨cj, tj, xj, mj, kj, ej, pj⟩ = false) := hk
        have H : Hid (may9 l f = false) := may9_kn (knAll_no (i := j) (by omega) (by rw [HF.out]; exact hk))
        clear hk
        go_wp2_with fail
        refine (rmay9_any cj tj xj mj kj ej pj _).mono ?_
        rintro r w2 ⟨rfl, hb2⟩
        rw [H1.out]
        go_wp2_with fail
        go_ret
        exact ⟨ret_b H.out.symm, hbw.trans (hb2.mono sw)⟩
      | true =>
        have H1 : Hid (knB ⟨cj, tj, xj, mj, kj, ej, pj⟩ = true) := hk
        have HK2 : Hid (∀ i, i < j + 1 → knB (f i) = true) := by
          intro i hi
          by_cases c : i = j
          · subst c; rw [HF.out]; exact hk
          · exact HK.out i (by omega)
        obtain ⟨y0, y1⟩ := un_bd hk
        have HS : Hid (z + atV ⟨cj, tj, xj, mj, kj, ej⟩ pj = sm (j + 1) (uns f)) := by show _ = sm j (uns f) + uns f j; rw [← HZ.out]; unfold uns; rw [HF.out]; rfl
        obtain ⟨y, hy⟩ : ∃ y, atV ⟨cj, tj, xj, mj, kj, ej⟩ pj = y := ⟨_, rfl⟩
        unfold Fx.sp at y0 y1
        simp only at y0 y1
        rw [hy] at y0 y1 HS
        have HAT : Hid (∀ w' : World, Calls Tryd.prog 29 #[.agg #[.int .i64 cj, .int .i64 tj, .int .i64 xj, .int .i64 mj, .int .i64 kj, .int .i64 ej], .int .i64 pj] w' fun r w'' => r = .returned (.int .i64 y) ∧ Below w'.heap.size w' w'') := fun w' => hy ▸ refAt_any cj tj xj mj kj ej pj w'
        have hwy : IntKind.i64.wrap (z + y) = z + y := by rw [IntKind.wrap_i64]; omega
        clear hk hy
        go_wp2_with fail
        refine (rmay9_any cj tj xj mj kj ej pj _).mono ?_
        rintro r w2 ⟨rfl, hb2⟩
        rw [H1.out]
        have d0 := cell_later hb2 e0
        have d1 := cell_later hb2 e1
        have d2 := cell_later hb2 e2
        have d3 := cell_later hb2 e3
        have d4 := cell_later hb2 e4
        have d5 := cell_later hb2 e5
        have d6 := cell_later hb2 e6
        replace hb2 : Below w.heap.size w w2 := hbw.trans (hb2.mono sw)
        clear e0 e1 e2 e3 e4 e5 e6 hbw
        have MK : Hid (∀ w' : World, Below w2.heap.size w2 w' → (w'.cell? ⟨bk, o + j * 7, none⟩ = some (.int .i64 cj) ∧ w'.cell? ⟨bk, o + j * 7 + 1, none⟩ = some (.int .i64 tj) ∧ w'.cell? ⟨bk, o + j * 7 + 2, none⟩ = some (.int .i64 xj) ∧ w'.cell? ⟨bk, o + j * 7 + 3, none⟩ = some (.int .i64 mj) ∧ w'.cell? ⟨bk, o + j * 7 + 4, none⟩ = some (.int .i64 kj) ∧ w'.cell? ⟨bk, o + j * 7 + 5, none⟩ = some (.int .i64 ej) ∧ w'.cell? ⟨bk, o + j * 7 + 6, none⟩ = some (.int .i64 pj)) ∧ Below w2.heap.size w2 w') := fun w' hb => ⟨⟨cell_later hb d0, cell_later hb d1, cell_later hb d2, cell_later hb d3, cell_later hb d4, cell_later hb d5, cell_later hb d6⟩, hb⟩
        clear d0 d1 d2 d3 d4 d5 d6
        go_wp2_with fail
        go_region_held3 (fun w' => (w'.cell? ⟨bk, o + j * 7, none⟩ = some (.int .i64 cj) ∧ w'.cell? ⟨bk, o + j * 7 + 1, none⟩ = some (.int .i64 tj) ∧ w'.cell? ⟨bk, o + j * 7 + 2, none⟩ = some (.int .i64 xj) ∧ w'.cell? ⟨bk, o + j * 7 + 3, none⟩ = some (.int .i64 mj) ∧ w'.cell? ⟨bk, o + j * 7 + 4, none⟩ = some (.int .i64 kj) ∧ w'.cell? ⟨bk, o + j * 7 + 5, none⟩ = some (.int .i64 ej) ∧ w'.cell? ⟨bk, o + j * 7 + 6, none⟩ = some (.int .i64 pj)) ∧ Below w2.heap.size w2 w')
          (first | exact MK.out _ (bstep (by assumption) (sBel (by assumption))) | exact MK.out _ (Below.refl _ _).drew)
          (first
          | (go_at_call 29; refine (HAT.out _).mono ?_; rintro r w3 ⟨rfl, hb3⟩))
        all_goals
          have hb : Below w.heap.size w _ := hb2.trans ((sBel (by assumption)).mono hb2.size)
          go_wp2_with fail
          go_roundw
          case rel => exact ⟨j + 1, z + y, by omega, by go_num, by go_num, by omega, by omega, HS.out, HK2.out, hb⟩
          case measure => simp [intOf]; omega
    · obtain rfl : j = l := by omega
      have hka : knAll j f = true := knAll_yes HK.out
      have HM : Hid (may9 j f = (decide (j ≤ 4) && decide (z ≤ 983040))) := by
        show _ = _
        unfold may9
        rw [hka, ← HZ.out]; rfl
      clear hka
      by_cases c4 : (j : Int) ≤ 4
      · have HM2 : Hid (may9 j f = decide (z ≤ 983040)) := by show _ = _; rw [HM.out, decide_eq_true (show j ≤ 4 by omega)]; rfl
        go_wp2
        go_ret
        exact ⟨ret_b HM2.out.symm, hbw⟩
      · have HM2 : Hid (may9 j f = false) := by show _ = _; rw [HM.out, decide_eq_false (show ¬ j ≤ 4 by omega)]; rfl
        go_wp2
        go_ret
        exact ⟨ret_b HM2.out.symm, hbw⟩

set_option maxHeartbeats 2000000 in
set_option maxRecDepth 100000 in
theorem rhor9_any (l : Nat) (f : Nat → Fx) (v : Value) (w : World) (h : Fxs w v l f) (hl : l ≤ 1100) :
    Calls Tryd.prog 18 #[v] w fun r w' => r = .returned (.int .i64 (hor9 l f)) ∧ Below w.heap.size w w' := by
  have HMay := rmayL_any l f v w h hl
  obtain ⟨a, cap, rfl, h1, h2, h0, h3⟩ := h
  cases hm : may9 l f with
  | false =>
    have HM : Hid (may9 l f = false) := hm
    have H : Hid (hor9 l f = 0) := hor9_no hm
    clear hm
    go_enter Tryd.func18, Tryd.ntmps18
    go_wp2_with fail
    refine HMay.mono ?_
    rintro r w1 ⟨rfl, hb1⟩
    rw [HM.out]
    go_wp2_with fail
    go_ret
    exact ⟨ret_i H.out.symm, hb1⟩
  | true =>
    have HM : Hid (may9 l f = true) := hm
    have H : Hid (hor9 l f = 16 * sm l (csF f)) := hor9_yes hm
    obtain ⟨l4, hk, _⟩ := may9_facts hm
    have HC : Hid (∀ j, j ≤ l → 0 ≤ sm j (csF f) ∧ sm j (csF f) ≤ j * 6) := cs_bd hk
    clear hm hk
    go_enter Tryd.func18, Tryd.ntmps18
    go_wp2_with fail
    refine HMay.mono ?_
    rintro r w1 ⟨rfl, hb1⟩
    rw [HM.out]
    clear HMay
    go_wp2_with fail
    go_loopw [4, 5] (fun s i wr => ∃ (j : Nat) (z : Int), j ≤ l ∧ i = .int .i64 j ∧ s = .int .i64 z ∧ 0 ≤ z ∧ z ≤ j * 6 ∧ Hid (z = sm j (csF f)) ∧ Below w.heap.size w wr) (fun _ i _ => ((l : Int) - intOf i).toNat)
    case atStart => exact ⟨0, 0, by omega, rfl, rfl, by omega, by omega, rfl, hb1⟩
    case round =>
      obtain ⟨j, z, hj, rfl, rfl, z0, z1, HZ, hbw⟩ := hrel
      by_cases hlt : (j : Int) < l
      · obtain ⟨bk, o, rfl, h4⟩ := h3 (by omega)
        have hrow := row_open (f := f j) (h4 j (by omega))
        clear h4 h3
        obtain ⟨⟨cj, tj, xj, mj, kj, ej, pj⟩, hf⟩ : ∃ y, f j = y := ⟨_, rfl⟩
        have HF : Hid (f j = ⟨cj, tj, xj, mj, kj, ej, pj⟩) := hf
        rw [hf] at hrow
        clear hf
        obtain ⟨k0, k1, k2, k3, k4, k5, k6⟩ := hrow
        simp only at k0 k1 k2 k3 k4 k5 k6
        have e0 := cell_later hbw k0
        have e1 := cell_later hbw k1
        have e2 := cell_later hbw k2
        have e3 := cell_later hbw k3
        have e4 := cell_later hbw k4
        have e5 := cell_later hbw k5
        have e6 := cell_later hbw k6
        have sb := World.block_lt_of_cell? _ _ k0
        clear k0 k1 k2 k3 k4 k5 k6
        have sw := hbw.size
        have HS : Hid (z + cj = sm (j + 1) (csF f)) := by show _ = sm j (csF f) + csF f j; rw [← HZ.out]; unfold csF; rw [HF.out]
        have hc := HC.out (j + 1) (by omega)
        rw [← HS.out] at hc
        obtain ⟨y0, y1⟩ := hc
        go_wp2_with fail
        go_roundw
        case rel => exact ⟨j + 1, z + cj, by omega, by go_num, by go_num, by omega, by omega, HS.out, hbw⟩
        case measure => simp [intOf]; omega
      · obtain rfl : j = l := by omega
        go_wp2
        go_ret
        exact ⟨ret_i (by rw [H.out, ← HZ.out]; omega), hbw⟩

set_option maxHeartbeats 2000000 in
set_option maxRecDepth 100000 in
theorem rfirst9_any (l : Nat) (f : Nat → Fx) (v : Value) (w : World) (h : Fxs w v l f) (hl : l ≤ 1100) :
    Calls Tryd.prog 20 #[v] w fun r w' => r = .returned (.int .i64 (first9 l f)) ∧ Below w.heap.size w w' := by
  have HF : Hid (Fxs w v l f) := h
  obtain ⟨g0, g1⟩ := hor9_nonneg l f
  obtain ⟨h9, hh⟩ : ∃ h9, hor9 l f = h9 := ⟨_, rfl⟩
  have HH : Hid (hor9 l f = h9) := hh
  rw [hh] at g0 g1
  clear hh
  have HHor := rhor9_any l f v w h hl
  clear h
  go_enter Tryd.func20, Tryd.ntmps20
  go_wp2_with fail
  refine HHor.mono ?_
  rintro r9 w1 ⟨rfl, hb1⟩
  rw [HH.out]
  clear HHor
  go_wp2_with fail
  go_loopw [4] (fun i wr => ∃ (z : Int), 1 ≤ z ∧ z ≤ 385 ∧ i = .int .i64 z ∧ Hid (∀ i, 1 ≤ i → i < z → allV9 l f i ≤ i) ∧ Below w.heap.size w wr) (fun i _ => (386 - intOf i).toNat)
  case atStart => exact ⟨1, by omega, by omega, rfl, fun i i0 i1 => by omega, hb1⟩
  case round =>
    obtain ⟨z, z0, z1, rfl, HZ, hbw⟩ := hrel
    by_cases hlt : z < h9
    · go_wp2_with fail
      refine (rall9_any l f z v _ (HF.out.later hbw)).mono ?_
      rintro r9 w5 ⟨rfl, hb5⟩
      replace hb5 : Below w.heap.size w w5 := hbw.trans (hb5.mono hbw.size)
      obtain ⟨y, hy⟩ : ∃ y, allV9 l f z = y := ⟨_, rfl⟩
      have HY : Hid (allV9 l f z = y) := hy
      rw [hy]
      clear hy
      by_cases c2 : y > z
      · have HR : Hid (first9 l f = z) := first9_eq (by rw [HH.out]; exact .inr ⟨z0, hlt, by rw [HY.out]; exact c2, HZ.out⟩)
        go_wp2_with fail
        go_ret
        exact ⟨ret_i HR.out.symm, hb5⟩
      · have HZ2 : Hid (∀ i, 1 ≤ i → i < z + 1 → allV9 l f i ≤ i) := by
          intro i i0 i1
          by_cases c : i = z
          · subst c; rw [HY.out]; omega
          · exact HZ.out i i0 (by omega)
        go_wp2_with fail
        go_roundw
        case rel => exact ⟨z + 1, by omega, by omega, by go_num, HZ2.out, hb5⟩
        case measure => simp [intOf]; omega
    · have HR : Hid (first9 l f = 0) := first9_eq (by rw [HH.out]; exact .inl ⟨rfl, fun i i0 i1 => HZ.out i i0 (by omega)⟩)
      go_wp2_with fail
      go_ret
      exact ⟨ret_i HR.out.symm, hbw⟩

set_option maxHeartbeats 2000000 in
set_option maxRecDepth 100000 in
theorem rtest9_any (l : Nat) (f : Nat → Fx) (v : Value) (w : World) (h : Fxs w v l f) (hl : l ≤ 1100) :
    Calls Tryd.prog 22 #[v] w fun r w' => r = .returned (.bool (tst9 l f)) ∧ Below w.heap.size w w' := by
  cases hm : may9 l f with
  | false =>
    have HM : Hid (may9 l f = false) := hm
    have H : Hid (tst9 l f = false) := by show _ = _; unfold tst9; rw [hm]; rfl
    clear hm
    go_enter Tryd.func22, Tryd.ntmps22
    go_wp2_with fail
    refine (rmayL_any l f v _ h hl).mono ?_
    rintro r w1 ⟨rfl, hb1⟩
    rw [HM.out]
    go_wp2_with fail
    go_ret
    exact ⟨ret_b H.out.symm, hb1⟩
  | true =>
    have HM : Hid (may9 l f = true) := hm
    have H : Hid (tst9 l f = decide (first9 l f = 0)) := by show _ = _; unfold tst9; rw [hm]; rfl
    clear hm
    go_enter Tryd.func22, Tryd.ntmps22
    go_wp2_with fail
    refine (rmayL_any l f v _ h hl).mono ?_
    rintro r w1 ⟨rfl, hb1⟩
    rw [HM.out]
    go_wp2_with fail
    refine (rfirst9_any l f v _ (h.later hb1) hl).mono ?_
    rintro r w2 ⟨rfl, hb2⟩
    go_wp2_with fail
    go_ret
    exact ⟨ret_b (by rw [H.out]; first | rfl | simp), hb1.trans (hb2.mono hb1.size)⟩
end Go.Proofs.YteibaiflljcghaaDoor
