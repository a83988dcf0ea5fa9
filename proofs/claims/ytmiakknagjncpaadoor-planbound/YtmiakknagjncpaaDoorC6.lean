/- Walks of package plan: all tasks as springs. -/
import Derived.Test.YtmiakknagjncpaaDoorC5
import Derived.OwnWalk
namespace Go.Proofs.YtmiakknagjncpaaDoor
open Go.RowKit Go.Shelf

theorem flat7_get (n : Nat) (u m e : Nat → Int) (t : Nat) (ht : t < n * 3) : (flat7 n u m e)[t]? = some (.int .i64 (if t % 3 = 0 then u (t / 3) else if t % 3 = 1 then m (t / 3) else e (t / 3))) := by
  obtain ⟨f0, f1, f2⟩ := flat7_at n u m e (t / 3) (by omega)
  rcases (show t % 3 = 0 ∨ t % 3 = 1 ∨ t % 3 = 2 by omega) with c | c | c
  · rw [show t / 3 * 3 = t by omega] at f0
    rw [f0, if_pos c]
  · rw [show t / 3 * 3 + 1 = t by omega] at f1
    rw [f1, if_neg (by omega), if_pos c]
  · rw [show t / 3 * 3 + 2 = t by omega] at f2
    rw [f2, if_neg (by omega), if_neg (by omega)]
theorem flat7_congr {n : Nat} {u m e u' m' e' : Nat → Int} (h : ∀ i, i < n → u i = u' i ∧ m i = m' i ∧ e i = e' i) : flat7 n u m e = flat7 n u' m' e' := by
  apply List.ext_getElem?
  intro t
  by_cases ht : t < n * 3
  · obtain ⟨h0, h1, h2⟩ := h (t / 3) (by omega)
    rw [flat7_get _ _ _ _ _ ht, flat7_get _ _ _ _ _ ht, h0, h1, h2]
  · rw [List.getElem?_eq_none (by rw [flat7_len]; omega), List.getElem?_eq_none (by rw [flat7_len]; omega)]
def uI7 (f : Nat → Int) (i : Nat) (x : Int) (a : Nat) : Int := if a = i then x else f a
def toI (j : Nat) (f : Nat → Int) (i : Nat) : Int := if i < j then f i else 0
theorem toI_step (j : Nat) (f : Nat → Int) (i : Nat) : uI7 (toI j f) j (f j) i = toI (j + 1) f i := by
  unfold uI7 toI
  by_cases c : i = j
  · subst c; rw [if_pos rfl, if_pos (by omega)]
  · rw [if_neg c]
    by_cases d : i < j
    · rw [if_pos d, if_pos (by omega)]
    · rw [if_neg d, if_neg (by omega)]
theorem flat7_to0 (n : Nat) (u m e : Nat → Int) : flat7 n (toI 0 u) (toI 0 m) (toI 0 e) = flat7 n (fun _ => 0) (fun _ => 0) (fun _ => 0) := flat7_congr fun _ _ => ⟨if_neg (Nat.not_lt_zero _), if_neg (Nat.not_lt_zero _), if_neg (Nat.not_lt_zero _)⟩
theorem flat7_ton (n : Nat) (u m e : Nat → Int) : flat7 n (toI n u) (toI n m) (toI n e) = flat7 n u m e := flat7_congr fun _ hi => ⟨if_pos hi, if_pos hi, if_pos hi⟩
theorem flat7_put {n : Nat} {u m e : Nat → Int} {i : Nat} {x y z : Int} (hi : i < n) : (((flat7 n u m e).set (i * 3) (.int .i64 x)).set (i * 3 + 1) (.int .i64 y)).set (i * 3 + 2) (.int .i64 z) = flat7 n (uI7 u i x) (uI7 m i y) (uI7 e i z) := by
  apply List.ext_getElem?
  intro t
  by_cases ht : t < n * 3
  · rw [flat7_get n (uI7 u i x) (uI7 m i y) (uI7 e i z) t ht, List.getElem?_set, List.getElem?_set, List.getElem?_set]
    simp only [List.length_set, flat7_len]
    rw [flat7_get n u m e t ht]
    unfold uI7
    by_cases c : t / 3 = i
    · rcases (show t % 3 = 0 ∨ t % 3 = 1 ∨ t % 3 = 2 by omega) with d | d | d
      · rw [if_neg (by omega), if_neg (by omega), if_pos (by omega), if_pos (by omega), if_pos d, if_pos c]
      · rw [if_neg (by omega), if_pos (by omega), if_pos (by omega), if_neg (by omega), if_pos d, if_pos c]
      · rw [if_pos (by omega), if_pos (by omega), if_neg (by omega), if_neg (by omega), if_pos c]
    · rw [if_neg (by omega), if_neg (by omega), if_neg (by omega), if_neg c, if_neg c, if_neg c]
  · rw [List.getElem?_eq_none (by simp [flat7_len]; omega), List.getElem?_eq_none (by rw [flat7_len]; omega)]
theorem made_flat7 (n : Nat) : (madeCells #[.int .i64 0, .int .i64 0, .int .i64 0] (n * 3)).toList = flat7 n (fun _ => 0) (fun _ => 0) (fun _ => 0) := by
  apply List.ext_getElem?
  intro t
  by_cases ht : t < n * 3
  · rw [flat7_get _ _ _ _ _ ht]
    simp only [ite_self]
    rcases (show t % 3 = 0 ∨ t % 3 = 1 ∨ t % 3 = 2 by omega) with d | d | d <;> simp [madeCells, ht, d]
  · rw [List.getElem?_eq_none (by simp [madeCells]; omega), List.getElem?_eq_none (by rw [flat7_len]; omega)]

set_option maxHeartbeats 2000000 in
set_option maxRecDepth 100000 in
theorem eachS_any (n : Nat) (s : Nat → Sp) (v : Value) (w : World) (h : Sps w v n s) (hn : n ≤ 4) :
    Calls Tryd.prog 30 #[v, .func (.func 31) #[] #[]] w fun r w' => ∃ x, r = .returned x ∧ w'.ownsRow w.heap.size 59 3 x n (flat7 n (topF s) (leaF s) (elF s)) ∧ Below w.heap.size w w' := by
  obtain ⟨i0, hi, hz0, hz1, hz2⟩ := info_parts Tryd.infoSpr
  obtain ⟨a, cap, rfl, h1, h2, h0, h3⟩ := h
  go_enter Tryd.func30, Tryd.ntmps30
  go_wp2_with (first
    | (at_make; refine wpList_make_full _ rfl _ _ 35 rfl w.heap.size 59 i0 (.agg #[.int .i64 0, .int .i64 0, .int .i64 0]) 3 Tryd.underlying35 hi hz0 hz1 .i64 .i64 n n n rfl rfl rfl rfl (by rw [hz2]; omega) (by unfold maxLen; omega) (Nat.le_refl _) ?_; intro w3 hown hgrow))
  rw [show Value.cells (.agg #[.int .i64 0, .int .i64 0, .int .i64 0]) = #[.int .i64 0, .int .i64 0, .int .i64 0] from rfl, made_flat7] at hown
  have hb3 : Below w.heap.size w w3 := (Below.refl _ _).grown hgrow (Nat.le_refl _) (by intro k hk; cases hk)
  clear hgrow hi hz0 hz1 hz2
  go_wp2_with fail
  go_loopw [13] (fun i wr => ∃ (j : Nat), j ≤ n ∧ i = .int .i64 j ∧ Hid (wr.ownsRow w.heap.size 59 3 (.slice (some ⟨w.heap.size, 0, none⟩) n n) n (flat7 n (toI j (topF s)) (toI j (leaF s)) (toI j (elF s)))) ∧ Below w.heap.size w wr) (fun i _ => ((n : Int) - intOf i).toNat)
  case atStart => exact ⟨0, by omega, rfl, by show World.ownsRow _ _ _ _ _ _ _; rw [flat7_to0]; exact hown, hb3⟩
  case round =>
    obtain ⟨j, hj, rfl, HO, hbw⟩ := hrel
    by_cases hlt : (j : Int) < n
    · obtain ⟨bk, o, rfl, h4⟩ := h3 (by omega)
      have hrow := rowS_open (f := s j) (h4 j (by omega))
      clear h4 h3
      obtain ⟨⟨cj, tj, xj, mj, kj, ej⟩, hf⟩ : ∃ y, s j = y := ⟨_, rfl⟩
      have HF : Hid (s j = ⟨cj, tj, xj, mj, kj, ej⟩) := hf
      rw [hf] at hrow
      clear hf
      obtain ⟨k0, k1, k2, k3, k4, k5⟩ := hrow
      simp only at k0 k1 k2 k3 k4 k5
      have e0 := cell_later hbw k0
      have e1 := cell_later hbw k1
      have e2 := cell_later hbw k2
      have e3 := cell_later hbw k3
      have e4 := cell_later hbw k4
      have e5 := cell_later hbw k5
      have sb := World.block_lt_of_cell? _ _ k0
      clear k0 k1 k2 k3 k4 k5
      have sw := hbw.size
      have hbox : Below w.heap.size w (wr.alloc (.cells #[.int .i64 cj, .int .i64 tj, .int .i64 xj, .int .i64 mj, .int .i64 kj, .int .i64 ej] 31)) := hbw.alloc sw _
      have HO1 : Hid (World.ownsRow (wr.alloc (.cells #[.int .i64 cj, .int .i64 tj, .int .i64 xj, .int .i64 mj, .int .i64 kj, .int .i64 ej] 31)) w.heap.size 59 3 (.slice (some ⟨w.heap.size, 0, none⟩) n n) n (flat7 n (toI j (topF s)) (toI j (leaF s)) (toI j (elF s)))) := HO.out.alloc _
      go_wp2_with fail
      refine (sprg_any _ cj tj xj mj kj ej _).mono ?_
      rintro r w4 ⟨rfl, hb4⟩
      have hown4 := own_laterF HO1.out hb4
      have HB4 : Hid (Below w.heap.size w w4) := hbox.trans (hb4.mono hbox.size)
      obtain ⟨g0, g1, g2⟩ := flat7_at n (toI j (topF s)) (toI j (leaF s)) (toI j (elF s)) j (by omega)
      have q0 := (hown4.cellAt (j * 3) (by omega)).trans g0
      have q1 := (hown4.cellAt (j * 3 + 1) (by omega)).trans g1
      have q2 := (hown4.cellAt (j * 3 + 2) (by omega)).trans g2
      have p0 := hown4.frozenAt (j * 3)
      have p1 := hown4.frozenAt (j * 3 + 1)
      have p2 := hown4.frozenAt (j * 3 + 2)
      have HV : Hid (topF s j = atV ⟨cj, tj, xj, mj, kj, ej⟩ tj ∧ leaF s j = leastV ⟨cj, tj, xj, mj, kj, ej⟩ ∧ elF s j = ej) := by show _ ∧ _ ∧ _; unfold topF leaF elF; rw [HF.out]; exact ⟨rfl, rfl, rfl⟩
      have HST : Hid (World.ownsRow (((w4.setCell ⟨w.heap.size, j * 3, none⟩ (.int .i64 (atV ⟨cj, tj, xj, mj, kj, ej⟩ tj))).setCell ⟨w.heap.size, j * 3 + 1, none⟩ (.int .i64 (leastV ⟨cj, tj, xj, mj, kj, ej⟩))).setCell ⟨w.heap.size, j * 3 + 2, none⟩ (.int .i64 ej)) w.heap.size 59 3 (.slice (some ⟨w.heap.size, 0, none⟩) n n) n (flat7 n (toI (j + 1) (topF s)) (toI (j + 1) (leaF s)) (toI (j + 1) (elF s)))) := by
        have := (((hown4.stored (j * 3) (.int .i64 (atV ⟨cj, tj, xj, mj, kj, ej⟩ tj))).1.stored (j * 3 + 1) (.int .i64 (leastV ⟨cj, tj, xj, mj, kj, ej⟩))).1.stored (j * 3 + 2) (.int .i64 ej)).1
        rw [flat7_put (by omega), ← HV.out.1, ← HV.out.2.1, ← HV.out.2.2] at this
        show World.ownsRow _ _ _ _ _ _ _
        rw [← HV.out.1, ← HV.out.2.1, ← HV.out.2.2]
        rwa [flat7_congr (u' := toI (j + 1) (topF s)) (m' := toI (j + 1) (leaF s)) (e' := toI (j + 1) (elF s)) fun i _ => ⟨toI_step j _ i, toI_step j _ i, toI_step j _ i⟩] at this
      clear hown4 HO1 HO g0 g1 g2 hb4 hbox HV
      generalize atV ⟨cj, tj, xj, mj, kj, ej⟩ tj = y0 at *
      generalize leastV ⟨cj, tj, xj, mj, kj, ej⟩ = y1 at *
      go_wp2_with fail
      go_roundw
      case rel => exact ⟨j + 1, by omega, by go_num, HST.out, ((HB4.out.setCell (by simp) _).setCell (by simp) _).setCell (by simp) _⟩
      case measure => simp [intOf]; omega
    · obtain rfl : j = n := by omega
      have HO2 : Hid (World.ownsRow wr w.heap.size 59 3 (.slice (some ⟨w.heap.size, 0, none⟩) j j) j (flat7 j (topF s) (leaF s) (elF s))) := by
        have := HO.out
        rwa [flat7_ton] at this
      go_wp2
      go_ret
      exact ⟨_, rfl, HO2.out, hbw⟩

/-- What springs come to. -/
def SpgE (n : Nat) (s : Nat → Sp) (w : World) (r : Ending) (w' : World) : Prop := ∃ x, r = .returned (.tuple #[x, .bool (spgB n s)]) ∧ Sprs w' x (spgN n s) (topF s) (leaF s) (elF s) ∧ Below w.heap.size w w'
theorem Sprs.nil (w : World) (u m e : Nat → Int) : Sprs w (.slice none 0 0) 0 u m e := ⟨none, 0, rfl, Nat.le_refl _, Nat.zero_le _, fun _ => rfl, fun h => by omega⟩

set_option maxHeartbeats 2000000 in
set_option maxRecDepth 100000 in
theorem spgs_any (n : Nat) (s : Nat → Sp) (v : Value) (w : World) (h : Sps w v n s) :
    Calls Tryd.prog 14 #[v] w (SpgE n s w) := by
  have HS : Hid (Sps w v n s) := h
  obtain ⟨a, cap, rfl, h1, h2, h0, h3⟩ := h
  clear h3 h0
  by_cases hn : (n : Int) > 4
  · have H : Hid (spgB n s = false ∧ spgN n s = 0) := spg_long (by omega)
    go_enter Tryd.func14, Tryd.ntmps14
    go_wp2
    go_ret2
    exact ⟨_, by rw [H.out.1]; rfl, by rw [H.out.2]; exact Sprs.nil _ _ _ _, Below.refl _ _⟩
  · cases hs : spsB n s with
    | false =>
      have H : Hid (spgB n s = false ∧ spgN n s = 0) := spg_no hs
      have H1 : Hid (spsB n s = false) := hs
      clear hs
      go_enter Tryd.func14, Tryd.ntmps14
      go_wp2_with fail
      refine (conS_any n s _ _ HS.out (by omega)).mono ?_
      rintro r w1 ⟨rfl, hb1⟩
      rw [H1.out]
      go_wp2
      go_ret2
      exact ⟨_, by rw [H.out.1]; rfl, by rw [H.out.2]; exact Sprs.nil _ _ _ _, hb1⟩
    | true =>
      have H : Hid (spgB n s = true ∧ spgN n s = n) := spg_yes (by omega) hs
      have H1 : Hid (spsB n s = true) := hs
      clear hs
      go_enter Tryd.func14, Tryd.ntmps14
      go_wp2_with fail
      refine (conS_any n s _ _ HS.out (by omega)).mono ?_
      rintro r w1 ⟨rfl, hb1⟩
      rw [H1.out]
      go_wp2_with fail
      refine (eachS_any n s _ _ (HS.out.later hb1) (by omega)).mono ?_
      rintro r w2 ⟨x, rfl, hown, hb2⟩
      have HX : Hid (Sprs w2 x n (topF s) (leaF s) (elF s)) := Sprs.own hown
      clear hown
      go_wp2
      go_ret2
      exact ⟨_, by rw [H.out.1]; rfl, by rw [H.out.2]; exact HX.out, hb1.trans (hb2.mono hb1.size)⟩
end Go.Proofs.YtmiakknagjncpaaDoor
