/- Walks of package demand: whether a list has a number, known, within, Of. -/
import Derived.Test.YteibaiflljcghaaDoorD2
import Derived.Deep.RegionHeld3
namespace Go.Proofs.YteibaiflljcghaaDoor
open Go.RowKit Go.Shelf

set_option maxHeartbeats 1000000 in
set_option maxRecDepth 100000 in
theorem index_any (xs : List Int) (n : Int) (v : Value) (w : World) (h : Nums w v xs) (hx : xs.length ≤ 100000) :
    Calls Tryd.prog 51 #[v, .int .i64 n] w fun r w' => (∃ z : Int, r = .returned (.int .i64 z) ∧ -1 ≤ z ∧ z ≤ 100000 ∧ Hid (0 ≤ z ↔ n ∈ xs)) ∧ w' = w := by
  obtain ⟨a, cap, rfl, h1, h2, h3⟩ := h
  go_enter Tryd.func51, Tryd.ntmps51
  go_wp2_with fail
  go_loop [8] (fun s => ∃ (j : Nat), j ≤ xs.length ∧ s = .int .i64 j ∧ Hid (∀ i, i < j → xs.getD i 0 ≠ n)) (fun s => ((xs.length : Int) - intOf s).toNat)
  case atStart => exact ⟨0, by omega, rfl, fun i hi => by omega⟩
  case round =>
    obtain ⟨j, hj, rfl, HZ⟩ := hrel
    by_cases hlt : (j : Int) < xs.length
    · obtain ⟨b, o, rfl, h4⟩ := h3 (by intro e; rw [e, List.length_nil] at hlt; omega)
      have hc := h4 j (by omega)
      clear h4 h3
      have HJ : Hid (xs.getD j 0 ∈ xs) := by
        show xs.getD j 0 ∈ xs
        have e : xs.getD j 0 = xs[j]'(by omega) := by simp [List.getD, show j < xs.length by omega]
        rw [e]; exact List.getElem_mem _
      obtain ⟨y, hy⟩ : ∃ y, xs.getD j 0 = y := ⟨_, rfl⟩
      have HY : Hid (xs.getD j 0 = y) := hy
      rw [hy] at hc
      clear hy
      by_cases he : n = y
      · have HE : Hid (n ∈ xs) := by show n ∈ xs; rw [he, ← HY.out]; exact HJ.out
        go_wp2
        go_ret
        exact ⟨⟨j, rfl, by omega, by omega, by have := HE.out; exact ⟨fun _ => by first | exact this | (rw [← he]; exact this), fun _ => by omega⟩⟩, rfl⟩
      · have HN : Hid (∀ i, i < j + 1 → xs.getD i 0 ≠ n) := by
          intro i hi
          by_cases c : i = j
          · subst c; rw [HY.out]; exact fun h => he h.symm
          · exact HZ.out i (by omega)
        go_wp2_with fail
        go_round
        case rel => exact ⟨j + 1, by omega, by go_num, HN.out⟩
        case measure => simp [intOf]; omega
    · have HN : Hid (n ∉ xs) := by
        intro hm
        obtain ⟨i, hi, e⟩ := List.getElem_of_mem hm
        exact HZ.out i (by omega) (by simp [List.getD, hi, e])
      go_wp2
      go_ret
      exact ⟨⟨-1, rfl, by omega, by omega, ⟨fun h => by omega, fun h => absurd h HN.out⟩⟩, rfl⟩

set_option maxHeartbeats 1000000 in
set_option maxRecDepth 100000 in
theorem contains_any (xs : List Int) (n : Int) (v : Value) (w : World) (h : Nums w v xs) (hx : xs.length ≤ 100000) :
    Calls Tryd.prog 38 #[v, .int .i64 n] w fun r w' => r = .returned (.bool (decide (n ∈ xs))) ∧ w' = w := by
  go_enter Tryd.func38, Tryd.ntmps38
  go_wp2_with fail
  refine (index_any xs n v _ h hx).mono ?_
  rintro r w1 ⟨⟨z, rfl, z0, z1, HZ⟩, rfl⟩
  go_wp2
  go_ret
  exact ⟨ret_b (decide_eq_decide.2 HZ.out), rfl⟩

theorem contains_bel (xs : List Int) (n : Int) (v : Value) (w : World) (h : Nums w v xs) (hx : xs.length ≤ 100000) :
    Calls Tryd.prog 38 #[v, .int .i64 n] w fun r w' => r = .returned (.bool (decide (n ∈ xs))) ∧ Below w.heap.size w w' := by
  refine (contains_any xs n v w h hx).mono ?_
  rintro r w' ⟨rfl, rfl⟩
  exact ⟨rfl, Below.refl _ _⟩

theorem mem_all (f : Fx) : decide (f.p ∈ allL f.sp) = knB f := by
  cases h : maySp f.sp with
  | false => rw [all_no h]; unfold knB; rw [h]; simp
  | true =>
    rw [all_yes h]
    unfold knB wiB
    rw [h, Bool.true_and]
    obtain ⟨c0, c1, f2, f3, f4, _⟩ := may_facts h
    rw [decide_eq_decide]
    unfold perL lst7 rn perN
    simp only [List.mem_map, List.mem_range, Fx.sp] at *
    constructor
    · rintro ⟨i, hi, e⟩
      omega
    · rintro ⟨p0, p1⟩
      exact ⟨(f.p - f.t).toNat, by omega, by omega⟩

theorem within9_any (n a b : Int) (w : World) :
    Calls Tryd.prog 30 #[.int .i64 n, .int .i64 a, .int .i64 b] w fun e w' => e = .returned (.bool (wiB n a b)) ∧ w' = w := by
  by_cases c0 : a ≤ n
  · have H : Hid (wiB n a b = decide (n ≤ b)) := by show _ = _; unfold wiB; simp [c0]
    go_enter Tryd.func30, Tryd.ntmps30
    go_wp2
    go_ret
    exact ⟨ret_b H.out.symm, rfl⟩
  · have H : Hid (wiB n a b = false) := by show _ = _; unfold wiB; simp [c0]
    go_enter Tryd.func30, Tryd.ntmps30
    go_wp2
    go_ret
    exact ⟨ret_b H.out.symm, rfl⟩

section
variable (c t x m k e p : Int)
set_option maxHeartbeats 2000000 in
set_option maxRecDepth 100000 in
theorem kn_any (w : World) :
    Calls Tryd.prog 25 #[.agg #[.int .i64 c, .int .i64 t, .int .i64 x, .int .i64 m, .int .i64 k, .int .i64 e, .int .i64 p]] w fun r w' => r = .returned (.bool (knB ⟨c, t, x, m, k, e, p⟩)) ∧ Below w.heap.size w w' := by
  have hS := Sev.new w c t x m k e p
  have hE : Hid (Below w.heap.size w (w.alloc (.cells #[.int .i64 c, .int .i64 t, .int .i64 x, .int .i64 m, .int .i64 k, .int .i64 e, .int .i64 p] 26))) := (Below.refl _ _).alloc (Nat.le_refl _) _
  have HK : Hid (decide (p ∈ allL ⟨c, t, x, m, k, e⟩) = knB ⟨c, t, x, m, k, e, p⟩) := mem_all ⟨c, t, x, m, k, e, p⟩
  obtain ⟨q, hq⟩ : ∃ q, knB ⟨c, t, x, m, k, e, p⟩ = q := ⟨_, rfl⟩
  rw [hq] at HK ⊢
  obtain ⟨xs, hxs⟩ : ∃ xs, allL ⟨c, t, x, m, k, e⟩ = xs := ⟨_, rfl⟩
  have HL : Hid (xs.length ≤ 100000) := by show _ ≤ _; rw [← hxs]; exact all_len _
  rw [hxs] at HK
  have HX : Hid (allL ⟨c, t, x, m, k, e⟩ = xs) := hxs
  clear hq hxs
  go_enter Tryd.func25, Tryd.ntmps25
  go_wp2_with fail
  generalize (w.alloc (.cells #[.int .i64 c, .int .i64 t, .int .i64 x, .int .i64 m, .int .i64 k, .int .i64 e, .int .i64 p] 26)) = W at *
  have s5 := hE.out.size
  have MK : Hid (∀ w' : World, Below W.heap.size W w' → (w'.cell? ⟨w.heap.size, 0, none⟩ = some (.int .i64 c) ∧ w'.cell? ⟨w.heap.size, 1, none⟩ = some (.int .i64 t) ∧ w'.cell? ⟨w.heap.size, 2, none⟩ = some (.int .i64 x) ∧ w'.cell? ⟨w.heap.size, 3, none⟩ = some (.int .i64 m) ∧ w'.cell? ⟨w.heap.size, 4, none⟩ = some (.int .i64 k) ∧ w'.cell? ⟨w.heap.size, 5, none⟩ = some (.int .i64 e) ∧ w'.cell? ⟨w.heap.size, 6, none⟩ = some (.int .i64 p)) ∧ Below W.heap.size W w') := fun w' hb => ⟨(hS.later hb).fx, hb⟩
  clear hS
  go_region_held3 (fun w' => (w'.cell? ⟨w.heap.size, 0, none⟩ = some (.int .i64 c) ∧ w'.cell? ⟨w.heap.size, 1, none⟩ = some (.int .i64 t) ∧ w'.cell? ⟨w.heap.size, 2, none⟩ = some (.int .i64 x) ∧ w'.cell? ⟨w.heap.size, 3, none⟩ = some (.int .i64 m) ∧ w'.cell? ⟨w.heap.size, 4, none⟩ = some (.int .i64 k) ∧ w'.cell? ⟨w.heap.size, 5, none⟩ = some (.int .i64 e) ∧ w'.cell? ⟨w.heap.size, 6, none⟩ = some (.int .i64 p)) ∧ Below W.heap.size W w')
    (first | exact MK.out _ (bstep (by assumption) (sBel (by assumption))) | exact MK.out _ (Below.refl _ _).drew)
    (first
    | (go_at_call 39; refine (perAll_any c t x m k e _).mono ?_; rintro r w3 ⟨v1, rfl, hv1, hb3⟩; rw [HX.out] at hv1; have hr1 := hv1.nums)
    | (go_at_call 38; have hr2 := hr1; refine (contains_bel xs p v1 _ hr2 HL.out).mono ?_; rintro r w4 ⟨rfl, hb4⟩; rw [HK.out]))
  all_goals
    go_wp2
    go_ret
    exact ⟨rfl, hE.out.trans ((sBel (by assumption)).mono s5)⟩
end
end Go.Proofs.YteibaiflljcghaaDoor
