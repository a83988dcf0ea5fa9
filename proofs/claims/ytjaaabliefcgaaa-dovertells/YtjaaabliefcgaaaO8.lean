/- Walk of dover's Order. -/
import Derived.Test.YtjaaabliefcgaaaO6
import Derived.Test.YtjaaabliefcgaaaU9
namespace Go.Proofs.Ytjaaabliefcgaaa
open Go.RowKit Go.Maps Go.Shelf

theorem made_ivs (n : Nat) : (madeCells #[.int .i64 0] (n * 1)).toList = ivs (List.replicate n 0) := by
  apply List.ext_getElem?
  intro t
  by_cases ht : t < n
  · rw [ivs_at (by simpa using ht)]
    simp [madeCells, ht, Nat.mod_one]
  · rw [List.getElem?_eq_none (by simp [madeCells]; omega), List.getElem?_eq_none (by rw [ivs_len]; simp; omega)]
theorem ivs_front {ts : List Int} {m : Nat} (x : Int) : (ivs (ts ++ List.replicate (m + 1) 0)).set ts.length (.int .i64 x) = ivs ((ts ++ [x]) ++ List.replicate m 0) := by
  rw [ivs_app, ivs_app, ivs_app, List.replicate_succ]
  have e : ivs (0 :: List.replicate m 0) = .int .i64 0 :: ivs (List.replicate m 0) := rfl
  rw [e, List.set_append_right _ _ (by rw [ivs_len]; exact Nat.le_refl _), ivs_len, Nat.sub_self]
  show _ = ivs ts ++ [_] ++ _
  simp
theorem idsA_len (xs : List Ap) : (idsA xs).length = xs.length := by simp [idsA]
theorem idsA_next {L : List Ap} {j : Nat} (h : j < L.length) : idsA (L.take j) ++ [(atA L j).id] = idsA (L.take (j + 1)) := by
  rw [takeA_next h]; unfold idsA; rw [List.map_append]; rfl

set_option maxHeartbeats 1000000 in
set_option maxRecDepth 100000 in
theorem order13_any (xs : List Ap) (v : Value) (w : World) (h : Aps w v xs) (hx : xs.length ≤ 100) (hw : ∀ a ∈ xs, wfK a.key) :
    Calls Try.prog 21 #[v] w fun e w' => ∃ u, e = .returned u ∧ w'.ownsRow w.heap.size 3 1 u xs.length (ivs (idsA (ordA xs))) ∧ Below w.heap.size w w' := by
  obtain ⟨i0, hi, hz0, hz1, hz2⟩ := info_parts Try.infoInt
  have HW : Hid (∀ a ∈ xs, wfK a.key) := hw
  have HA : Hid (Aps w v xs) := h
  have hL : (ordA xs).length = xs.length := ordA_len xs
  clear hw
  obtain ⟨ad, cap, rfl, h1, h2, h0, h3⟩ := h.open
  clear h h3
  go_enter Try.func21, Try.ntmps21
  go_wp2_with (first
    | (at_make; refine wpList_make_full _ rfl _ _ 25 rfl w.heap.size 3 i0 _ 1 Try.underlying25 hi hz0 hz1 .i64 .i64 xs.length xs.length xs.length rfl rfl rfl rfl (by rw [hz2]; omega) (by unfold maxLen; omega) (Nat.le_refl _) ?_; intro w1 hown hgrow))
  rw [show Value.cells (.int .i64 0) = #[.int .i64 0] from rfl, made_ivs] at hown
  have hb1 : Below w.heap.size w w1 := (Below.refl _ _).grown hgrow (Nat.le_refl _) (by intro k hk; cases hk)
  have lg := (hown.lt w.heap.size rfl).2
  have hA1 := HA.out.later hb1
  clear hgrow
  go_wp2_with fail
  refine (inOrder_any xs _ w1 hA1 hx HW.out).mono ?_
  rintro e w2 ⟨u, rfl, hu, hb2⟩
  obtain ⟨au, capu, rfl, u1, u2, _, u3⟩ := hu.aps.open
  rw [hL] at u1 u3
  rw [hL]
  have H2 : Hid (w2.ownsRow w.heap.size 3 1 (.slice (some ⟨w.heap.size, 0, none⟩) xs.length xs.length) xs.length (ivs (idsA ((ordA xs).take 0) ++ List.replicate (xs.length - 0) 0)) ∧ OwnA w2 w1.heap.size (.slice au xs.length capu) (ordA xs) ∧ Below w.heap.size w w2) := ⟨own_laterF hown hb2, by rw [hL] at hu; exact hu, hb1.trans (hb2.mono hb1.size)⟩
  clear hown hb1 hA1 hu hb2 u3 HA HW
  go_wp2_with fail
  go_loopw [12] (fun i wr => ∃ (j : Nat), j ≤ xs.length ∧ i = .int .i64 j ∧ Hid (wr.ownsRow w.heap.size 3 1 (.slice (some ⟨w.heap.size, 0, none⟩) xs.length xs.length) xs.length (ivs (idsA ((ordA xs).take j) ++ List.replicate (xs.length - j) 0)) ∧ OwnA wr w1.heap.size (.slice au xs.length capu) (ordA xs) ∧ Below w.heap.size w wr)) (fun i _ => ((xs.length : Int) - intOf i).toNat)
  case atStart => exact ⟨0, by omega, rfl, H2.out⟩
  case round =>
    clear H2
    obtain ⟨j, hj, rfl, HH⟩ := hrel
    by_cases hlt : (j : Int) < xs.length
    · have hjL : j < (ordA xs).length := by omega
      obtain ⟨a', cap', e', _, _, _, h4⟩ := HH.out.2.1.aps.open
      rw [hL] at e' h4
      simp only [Value.slice.injEq, true_and] at e'
      obtain ⟨rfl, rfl⟩ := e'
      obtain ⟨bu, ou, rfl, h5⟩ := h4 (by omega)
      obtain ⟨k0, k1, k2, k3, k4⟩ := h5 j (by omega)
      have hl : (idsA ((ordA xs).take j)).length = j := by rw [idsA_len, List.length_take]; omega
      have HS : Hid ((ivs (idsA ((ordA xs).take j) ++ List.replicate (xs.length - j) 0)).set j (.int .i64 (atA (ordA xs) j).id) = ivs (idsA ((ordA xs).take (j + 1)) ++ List.replicate (xs.length - (j + 1)) 0)) := by
        show _ = _
        obtain ⟨k, hk⟩ : ∃ k, xs.length - j = k + 1 := ⟨xs.length - j - 1, by omega⟩
        rw [hk, show xs.length - (j + 1) = k by omega]
        have := ivs_front (ts := idsA ((ordA xs).take j)) (m := k) (atA (ordA xs) j).id
        rw [hl] at this
        rw [this, idsA_next hjL]
      have g0 := (HH.out.1.cellAt j (by omega)).trans (ivs_at (by simp [hl]; omega))
      have f0 := HH.out.1.frozenAt j
      have lr := (HH.out.1.lt w.heap.size rfl).2
      clear h5 h4 hl
      generalize atA (ordA xs) j = a at *
      obtain ⟨ii, dd, cc, vv, rr⟩ := a
      simp only at k0 k1 k2 k3 k4 HS
      have HN : Hid (((wr.setCell ⟨w.heap.size, j, none⟩ (.int .i64 ii)).alloc (.cells #[.int .i64 ii, .int .i64 dd, .int .i64 cc, .int .i64 vv, .int .i64 rr] 30)).ownsRow w.heap.size 3 1 (.slice (some ⟨w.heap.size, 0, none⟩) xs.length xs.length) xs.length (ivs (idsA ((ordA xs).take (j + 1)) ++ List.replicate (xs.length - (j + 1)) 0)) ∧ OwnA ((wr.setCell ⟨w.heap.size, j, none⟩ (.int .i64 ii)).alloc (.cells #[.int .i64 ii, .int .i64 dd, .int .i64 cc, .int .i64 vv, .int .i64 rr] 30)) w1.heap.size (.slice (some ⟨bu, ou, none⟩) xs.length capu) (ordA xs) ∧ Below w.heap.size w ((wr.setCell ⟨w.heap.size, j, none⟩ (.int .i64 ii)).alloc (.cells #[.int .i64 ii, .int .i64 dd, .int .i64 cc, .int .i64 vv, .int .i64 rr] 30))) := by
        have hg := (setCell_grown wr w.heap.size j (.int .i64 ii)).trans (World.grownBy_alloc _ (.cells #[.int .i64 ii, .int .i64 dd, .int .i64 cc, .int .i64 vv, .int .i64 rr] 30) _)
        refine ⟨?_, HH.out.2.1.kept hg (fun k hk => by cases hk; exact lg), HH.out.2.2.grown hg HH.out.2.2.size (fun k hk => by cases hk; exact Nat.le_refl _)⟩
        have := (HH.out.1.stored j (.int .i64 ii)).1.alloc (.cells #[.int .i64 ii, .int .i64 dd, .int .i64 cc, .int .i64 vv, .int .i64 rr] 30)
        rwa [HS.out] at this
      clear HH HS
      go_wp2_with fail
      go_roundw
      case rel => exact ⟨j + 1, by omega, by go_num, HN.out⟩
      case measure => simp [intOf]; omega
    · obtain rfl : j = xs.length := by omega
      have HE : Hid (wr.ownsRow w.heap.size 3 1 (.slice (some ⟨w.heap.size, 0, none⟩) xs.length xs.length) xs.length (ivs (idsA (ordA xs)))) := by
        have := HH.out.1
        rw [List.take_of_length_le (by omega), Nat.sub_self] at this
        simp only [List.replicate_zero, List.append_nil] at this
        exact this
      go_wp2_with fail
      go_ret
      exact ⟨_, rfl, HE.out, HH.out.2.2⟩
end Go.Proofs.Ytjaaabliefcgaaa
