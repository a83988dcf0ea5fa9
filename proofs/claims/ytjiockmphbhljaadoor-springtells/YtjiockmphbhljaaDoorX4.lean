/- Walks of package spring: what is told of each, and all of it together; May and Room. -/
import Derived.Test.YtjiockmphbhljaaDoorX3
namespace Go.Proofs.YtjiockmphbhljaaDoor
open Go.RowKit

/-- g of the first n numbers, one by one. -/
def lst7 (n : Nat) (g : Nat → Int) : List Int := (List.range n).map g
theorem lst7_len (n : Nat) (g : Nat → Int) : (lst7 n g).length = n := by simp [lst7]
theorem lst7_at {n : Nat} {g : Nat → Int} {i : Nat} (h : i < n) : (lst7 n g).getD i 0 = g i := by simp [lst7, List.getD, h]
theorem lst7_sum (n : Nat) (g : Nat → Int) : (lst7 n g).sum = sm n g := by
  unfold lst7
  induction n with
  | zero => rfl
  | succ n ih => rw [List.range_succ, List.map_append, List.sum_append, ih]; simp [sm]
/-- Those of which the first j are written. -/
def upto7 (n : Nat) (g : Nat → Int) (j : Nat) : List Value := (List.range n).map fun t => .int .i64 (if t < j then g t else 0)
theorem upto7_zero (n : Nat) (g : Nat → Int) : List.replicate n (Value.int .i64 0) = upto7 n g 0 := by
  apply List.ext_getElem
  · simp [upto7]
  · intro i h1 h2; simp [upto7]
theorem upto7_step (n : Nat) (g : Nat → Int) (j : Nat) : (upto7 n g j).set j (.int .i64 (g j)) = upto7 n g (j + 1) := by
  apply List.ext_getElem
  · simp [upto7]
  · intro i h1 h2
    simp only [upto7, List.getElem_set, List.getElem_map, List.getElem_range]
    by_cases e : j = i
    · subst e; simp
    · rw [if_neg e]
      by_cases c : i < j
      · rw [if_pos c, if_pos (by omega)]
      · rw [if_neg c, if_neg (by omega)]
theorem upto7_at (n : Nat) (g : Nat → Int) (j : Nat) (h : j < n) : (upto7 n g j)[j]? = some (.int .i64 0) := by
  unfold upto7; rw [List.getElem?_map, List.getElem?_range h]; simp
theorem upto7_end (n : Nat) (g : Nat → Int) : upto7 n g n = ivs (lst7 n g) := by
  apply List.ext_getElem
  · simp [upto7, ivs, lst7]
  · intro i h1 h2
    simp [upto7, ivs, lst7] at h1 h2 ⊢
    intro h; omega

/-- A list of the call's own, of integers. -/
def OwnI (B : Nat) (xs : List Int) (w : World) (r : Ending) (w' : World) : Prop :=
  ∃ v, r = .returned v ∧ w'.ownsRow B 3 1 v xs.length (ivs xs) ∧ Below B w w'

/-- What springs must be to be pressed. -/
def fitS (n : Nat) (u m e : Nat → Int) : Prop := n ≤ 4 ∧ ∀ i, i < n → 1 ≤ m i ∧ m i ≤ u i ∧ u i ≤ 1048576 ∧ 0 ≤ e i ∧ e i ≤ 8
def lo7 (u m e : Nat → Int) (i : Nat) : Int := lea (u i) (m i) (e i)
theorem fitS.sp {n : Nat} {u m e : Nat → Int} (h : fitS n u m e) : Sp7 n u (lo7 u m e) e := by
  refine ⟨h.1, fun i hi => ?_, fun i hi => ?_, fun i hi => (h.2 i hi).2.2.1, fun i hi => (h.2 i hi).2.2.2.1, fun i hi => (h.2 i hi).2.2.2.2, fun i hi he => ?_⟩
  · have := h.2 i hi; unfold lo7 lea; split <;> omega
  · have := h.2 i hi; unfold lo7 lea; split <;> omega
  · unfold lo7 lea; rw [if_pos he]

set_option maxHeartbeats 1000000 in
set_option maxRecDepth 100000 in
theorem each_least (n : Nat) (u m e : Nat → Int) (v : Value) (w : World) (h : Sprs w v n u m e) (hn : n ≤ 4) :
    Calls Tryd.prog 22 #[v, .func (.func 26) #[] #[]] w (OwnI w.heap.size (lst7 n (lo7 u m e)) w) := by
  obtain ⟨i0, hi, hz0, hz1, hz2⟩ := info_parts Tryd.infoInt
  obtain ⟨ad, cap, rfl, h1, h2, h0, h3⟩ := h
  unfold OwnI
  rw [lst7_len]
  go_enter Tryd.func22, Tryd.ntmps22
  go_wp2_with (first
    | (at_make; refine wpList_make_full _ rfl _ _ 26 rfl w.heap.size 3 i0 (.int .i64 0) 1 Tryd.underlying26 hi hz0 hz1 .i64 .i64 n n n rfl rfl rfl rfl (by rw [hz2]; omega) (by unfold maxLen; omega) (Nat.le_refl _) ?_; intro w1 hown hgrow))
  rw [show Value.cells (.int .i64 0) = #[.int .i64 0] from rfl, Nat.mul_one, toList_madeCells_one, upto7_zero n (lo7 u m e)] at hown
  have hb1 : Below w.heap.size w w1 := (Below.refl _ _).grown hgrow (Nat.le_refl _) (by intro k hk; cases hk)
  clear hgrow
  go_wp2_with fail
  go_loopw [13] (fun i wr => ∃ (j : Nat), j ≤ n ∧ i = .int .i64 j ∧ wr.ownsRow w.heap.size 3 1 (.slice (some ⟨w.heap.size, 0, none⟩) n n) n (upto7 n (lo7 u m e) j) ∧ Below w.heap.size w wr) (fun i _ => ((n : Int) - intOf i).toNat)
  case atStart => exact ⟨0, by omega, rfl, hown, hb1⟩
  case round =>
    clear hown hb1
    obtain ⟨j, hj, rfl, hown, hbw⟩ := hrel
    by_cases hlt : (j : Int) < n
    · obtain ⟨bk, o, rfl, h4⟩ := h3 (by omega)
      obtain ⟨k0, k1, k2⟩ := h4 j (by omega)
      clear h4 h3
      have e0 := cell_later hbw k0
      have e1 := cell_later hbw k1
      have e2 := cell_later hbw k2
      have sb := World.block_lt_of_cell? _ _ k0
      clear k0 k1 k2
      have sw := hbw.size
      obtain ⟨uj, hu⟩ : ∃ x, u j = x := ⟨_, rfl⟩
      obtain ⟨mj, hm⟩ : ∃ x, m j = x := ⟨_, rfl⟩
      obtain ⟨ej, he⟩ : ∃ x, e j = x := ⟨_, rfl⟩
      have HU : Hid (u j = uj ∧ m j = mj ∧ e j = ej) := ⟨hu, hm, he⟩
      rw [hu] at e0; rw [hm] at e1; rw [he] at e2
      clear hu hm he
      go_wp2_with fail
      have hbox : Below w.heap.size w (wr.alloc (.cells #[.int .i64 uj, .int .i64 mj, .int .i64 ej] 33)) := hbw.alloc sw _
      have hown1 := hown.alloc (.cells #[.int .i64 uj, .int .i64 mj, .int .i64 ej] 33)
      refine (least7_any _ _ _ _).mono ?_
      rintro r w2 ⟨rfl, hb2⟩
      have hown2 := own_later hown1 hb2
      have hb : Below w.heap.size w w2 := hbox.trans (hb2.mono hbox.size)
      clear hb2 hbox hown1 hown
      have hcj := (hown2.cellAt j (by omega)).trans (upto7_at n _ j (by omega))
      have hfj := hown2.frozenAt j
      go_wp2_with fail
      go_roundw
      case rel =>
        have hst := hown2.stored j (.int .i64 ((lo7 u m e) j))
        rw [upto7_step] at hst
        obtain ⟨rfl, rfl, rfl⟩ := HU.out
        exact ⟨j + 1, by omega, by go_num, hst.1, hb.setCell (Nat.le_refl _) _⟩
      case measure => simp [intOf]; omega
    · have hjk : j = n := by omega
      subst hjk
      rw [upto7_end] at hown
      go_wp2_with fail
      go_ret
      exact ⟨_, rfl, hown, hbw⟩

set_option maxHeartbeats 1000000 in
set_option maxRecDepth 100000 in
theorem each_top (n : Nat) (u m e : Nat → Int) (v : Value) (w : World) (h : Sprs w v n u m e) (hn : n ≤ 4) :
    Calls Tryd.prog 22 #[v, .func (.func 27) #[] #[]] w (OwnI w.heap.size (lst7 n u) w) := by
  obtain ⟨i0, hi, hz0, hz1, hz2⟩ := info_parts Tryd.infoInt
  obtain ⟨ad, cap, rfl, h1, h2, h0, h3⟩ := h
  unfold OwnI
  rw [lst7_len]
  go_enter Tryd.func22, Tryd.ntmps22
  go_wp2_with (first
    | (at_make; refine wpList_make_full _ rfl _ _ 26 rfl w.heap.size 3 i0 (.int .i64 0) 1 Tryd.underlying26 hi hz0 hz1 .i64 .i64 n n n rfl rfl rfl rfl (by rw [hz2]; omega) (by unfold maxLen; omega) (Nat.le_refl _) ?_; intro w1 hown hgrow))
  rw [show Value.cells (.int .i64 0) = #[.int .i64 0] from rfl, Nat.mul_one, toList_madeCells_one, upto7_zero n u] at hown
  have hb1 : Below w.heap.size w w1 := (Below.refl _ _).grown hgrow (Nat.le_refl _) (by intro k hk; cases hk)
  clear hgrow
  go_wp2_with fail
  go_loopw [13] (fun i wr => ∃ (j : Nat), j ≤ n ∧ i = .int .i64 j ∧ wr.ownsRow w.heap.size 3 1 (.slice (some ⟨w.heap.size, 0, none⟩) n n) n (upto7 n u j) ∧ Below w.heap.size w wr) (fun i _ => ((n : Int) - intOf i).toNat)
  case atStart => exact ⟨0, by omega, rfl, hown, hb1⟩
  case round =>
    clear hown hb1
    obtain ⟨j, hj, rfl, hown, hbw⟩ := hrel
    by_cases hlt : (j : Int) < n
    · obtain ⟨bk, o, rfl, h4⟩ := h3 (by omega)
      obtain ⟨k0, k1, k2⟩ := h4 j (by omega)
      clear h4 h3
      have e0 := cell_later hbw k0
      have e1 := cell_later hbw k1
      have e2 := cell_later hbw k2
      have sb := World.block_lt_of_cell? _ _ k0
      clear k0 k1 k2
      have sw := hbw.size
      obtain ⟨uj, hu⟩ : ∃ x, u j = x := ⟨_, rfl⟩
      obtain ⟨mj, hm⟩ : ∃ x, m j = x := ⟨_, rfl⟩
      obtain ⟨ej, he⟩ : ∃ x, e j = x := ⟨_, rfl⟩
      have HU : Hid (u j = uj ∧ m j = mj ∧ e j = ej) := ⟨hu, hm, he⟩
      rw [hu] at e0; rw [hm] at e1; rw [he] at e2
      clear hu hm he
      go_wp2_with fail
      have hbox : Below w.heap.size w (wr.alloc (.cells #[.int .i64 uj, .int .i64 mj, .int .i64 ej] 33)) := hbw.alloc sw _
      have hown1 := hown.alloc (.cells #[.int .i64 uj, .int .i64 mj, .int .i64 ej] 33)
      refine (top7_any _ _ _ _).mono ?_
      rintro r w2 ⟨rfl, hb2⟩
      have hown2 := own_later hown1 hb2
      have hb : Below w.heap.size w w2 := hbox.trans (hb2.mono hbox.size)
      clear hb2 hbox hown1 hown
      have hcj := (hown2.cellAt j (by omega)).trans (upto7_at n _ j (by omega))
      have hfj := hown2.frozenAt j
      go_wp2_with fail
      go_roundw
      case rel =>
        have hst := hown2.stored j (.int .i64 (u j))
        rw [upto7_step] at hst
        obtain ⟨rfl, rfl, rfl⟩ := HU.out
        exact ⟨j + 1, by omega, by go_num, hst.1, hb.setCell (Nat.le_refl _) _⟩
      case measure => simp [intOf]; omega
    · have hjk : j = n := by omega
      subst hjk
      rw [upto7_end] at hown
      go_wp2_with fail
      go_ret
      exact ⟨_, rfl, hown, hbw⟩

set_option maxHeartbeats 1000000 in
set_option maxRecDepth 100000 in
theorem each_has (n : Nat) (u m e : Nat → Int) (v : Value) (w : World) (a b : Int) (c : Nat) (a0 : 0 ≤ a) (a1 : a ≤ 4194304) (b1 : 1 ≤ b) (b32 : b ≤ 32) (hD : Duo w c a b) (hS : fitS n u m e) (h : Sprs w v n u m e) (hn : n ≤ 4) :
    Calls Tryd.prog 22 #[v, .func (.func 32) #[] #[.pointer (some ⟨c, 0, none⟩)]] w (OwnI w.heap.size (lst7 n (fun i => hasV (u i) (m i) (e i) a b)) w) := by
  obtain ⟨i0, hi, hz0, hz1, hz2⟩ := info_parts Tryd.infoInt
  obtain ⟨ad, cap, rfl, h1, h2, h0, h3⟩ := h
  unfold OwnI
  rw [lst7_len]
  go_enter Tryd.func22, Tryd.ntmps22
  go_wp2_with (first
    | (at_make; refine wpList_make_full _ rfl _ _ 26 rfl w.heap.size 3 i0 (.int .i64 0) 1 Tryd.underlying26 hi hz0 hz1 .i64 .i64 n n n rfl rfl rfl rfl (by rw [hz2]; omega) (by unfold maxLen; omega) (Nat.le_refl _) ?_; intro w1 hown hgrow))
  rw [show Value.cells (.int .i64 0) = #[.int .i64 0] from rfl, Nat.mul_one, toList_madeCells_one, upto7_zero n (fun i => hasV (u i) (m i) (e i) a b)] at hown
  have hb1 : Below w.heap.size w w1 := (Below.refl _ _).grown hgrow (Nat.le_refl _) (by intro k hk; cases hk)
  clear hgrow
  go_wp2_with fail
  go_loopw [13] (fun i wr => ∃ (j : Nat), j ≤ n ∧ i = .int .i64 j ∧ wr.ownsRow w.heap.size 3 1 (.slice (some ⟨w.heap.size, 0, none⟩) n n) n (upto7 n (fun i => hasV (u i) (m i) (e i) a b) j) ∧ Below w.heap.size w wr) (fun i _ => ((n : Int) - intOf i).toNat)
  case atStart => exact ⟨0, by omega, rfl, hown, hb1⟩
  case round =>
    clear hown hb1
    obtain ⟨j, hj, rfl, hown, hbw⟩ := hrel
    by_cases hlt : (j : Int) < n
    · obtain ⟨bk, o, rfl, h4⟩ := h3 (by omega)
      obtain ⟨k0, k1, k2⟩ := h4 j (by omega)
      have HS : Hid (1 ≤ m j ∧ m j ≤ u j ∧ u j ≤ 1048576 ∧ 0 ≤ e j ∧ e j ≤ 8) := hS.2 j (by omega)
      clear h4 h3
      have e0 := cell_later hbw k0
      have e1 := cell_later hbw k1
      have e2 := cell_later hbw k2
      have sb := World.block_lt_of_cell? _ _ k0
      clear k0 k1 k2
      have sw := hbw.size
      obtain ⟨uj, hu⟩ : ∃ x, u j = x := ⟨_, rfl⟩
      obtain ⟨mj, hm⟩ : ∃ x, m j = x := ⟨_, rfl⟩
      obtain ⟨ej, he⟩ : ∃ x, e j = x := ⟨_, rfl⟩
      have HU : Hid (u j = uj ∧ m j = mj ∧ e j = ej) := ⟨hu, hm, he⟩
      rw [hu] at e0; rw [hm] at e1; rw [he] at e2
      clear hu hm he
      go_wp2_with fail
      have hbox : Below w.heap.size w (wr.alloc (.cells #[.int .i64 uj, .int .i64 mj, .int .i64 ej] 33)) := hbw.alloc sw _
      have hown1 := hown.alloc (.cells #[.int .i64 uj, .int .i64 mj, .int .i64 ej] 33)
      obtain ⟨y1, y2, y3, y4, y5⟩ := HS.out
      rw [HU.out.1] at y2 y3; rw [HU.out.2.1] at y1 y2; rw [HU.out.2.2] at y4 y5
      refine (has7_any _ _ _ a b c _ (by omega) y3 y4 y5 a0 a1 b1 b32 ((hD.later hbw).later ((Below.refl _ _).alloc (Nat.le_refl _) _))).mono ?_
      rintro r w2 ⟨rfl, hb2⟩
      have hown2 := own_later hown1 hb2
      have hb : Below w.heap.size w w2 := hbox.trans (hb2.mono hbox.size)
      clear hb2 hbox hown1 hown
      have hcj := (hown2.cellAt j (by omega)).trans (upto7_at n _ j (by omega))
      have hfj := hown2.frozenAt j
      go_wp2_with fail
      go_roundw
      case rel =>
        have hst := hown2.stored j (.int .i64 ((fun i => hasV (u i) (m i) (e i) a b) j))
        rw [upto7_step] at hst
        obtain ⟨rfl, rfl, rfl⟩ := HU.out
        exact ⟨j + 1, by omega, by go_num, hst.1, hb.setCell (Nat.le_refl _) _⟩
      case measure => simp [intOf]; omega
    · have hjk : j = n := by omega
      subst hjk
      rw [upto7_end] at hown
      go_wp2_with fail
      go_ret
      exact ⟨_, rfl, hown, hbw⟩

theorem sumB_lst {n : Nat} {g : Nat → Int} (hn : n ≤ 4) (h : ∀ i, i < n → 0 ≤ g i ∧ g i ≤ 1048576) : sumB (lst7 n g) = true := by
  unfold sumB
  rw [lst7_len, decide_eq_true (show n ≤ 1000 by omega), Bool.true_and, List.all_eq_true]
  intro x hx
  obtain ⟨i, hi, rfl⟩ := List.mem_map.1 hx
  have := h i (List.mem_range.1 hi)
  exact decide_eq_true (show 0 ≤ g i ∧ g i ≤ 1099511627776 by omega)
theorem sumV_lst {n : Nat} {g : Nat → Int} (hn : n ≤ 4) (h : ∀ i, i < n → 0 ≤ g i ∧ g i ≤ 1048576) : sumV (lst7 n g) = sm n g := by
  rw [sum_yes (sumB_lst hn h), lst7_sum]

set_option maxHeartbeats 1000000 in
set_option maxRecDepth 100000 in
theorem total_least (n : Nat) (u m e : Nat → Int) (v : Value) (w : World) (h : Sprs w v n u m e) (hS : fitS n u m e) (hL : Lim w) :
    Calls Tryd.prog 25 #[v, .func (.func 26) #[] #[]] w fun r w' => r = .returned (.int .i64 (sm n (lo7 u m e))) ∧ Below w.heap.size w w' := by
  have HB : Hid (sumV (lst7 n (lo7 u m e)) = sm n (lo7 u m e)) := sumV_lst hS.1 (fun i hi => by have := hS.2 i hi; have := hS.sp.low i hi; have := hS.sp.top i hi; omega)
  have HN : Hid (n ≤ 4) := hS.1
  go_enter Tryd.func25, Tryd.ntmps25
  go_wp2_with fail
  refine (each_least n u m e v _ h HN.out).mono ?_
  rintro r w1 ⟨x, rfl, hown, hb1⟩
  have hN := (Nums.own hown).1
  have hL1 := hL.later hb1
  clear hown
  go_wp2_with fail
  refine (sum_any _ _ _ hN hL1).mono ?_
  rintro r w2 ⟨rfl, rfl⟩
  rw [HB.out]
  go_wp2
  go_ret
  exact ⟨rfl, hb1⟩

set_option maxHeartbeats 1000000 in
set_option maxRecDepth 100000 in
theorem total_top (n : Nat) (u m e : Nat → Int) (v : Value) (w : World) (h : Sprs w v n u m e) (hS : fitS n u m e) (hL : Lim w) :
    Calls Tryd.prog 25 #[v, .func (.func 27) #[] #[]] w fun r w' => r = .returned (.int .i64 (sm n u)) ∧ Below w.heap.size w w' := by
  have HB : Hid (sumV (lst7 n u) = sm n u) := sumV_lst hS.1 (fun i hi => by have := hS.2 i hi; have := hS.sp.low i hi; have := hS.sp.top i hi; omega)
  have HN : Hid (n ≤ 4) := hS.1
  go_enter Tryd.func25, Tryd.ntmps25
  go_wp2_with fail
  refine (each_top n u m e v _ h HN.out).mono ?_
  rintro r w1 ⟨x, rfl, hown, hb1⟩
  have hN := (Nums.own hown).1
  have hL1 := hL.later hb1
  clear hown
  go_wp2_with fail
  refine (sum_any _ _ _ hN hL1).mono ?_
  rintro r w2 ⟨rfl, rfl⟩
  rw [HB.out]
  go_wp2
  go_ret
  exact ⟨rfl, hb1⟩

/-- May springs be? -/
def sprB (n : Nat) (u m e : Nat → Int) : Bool := decide (n ≤ 4 ∧ ∀ i, i < n → 1 ≤ m i ∧ m i ≤ u i ∧ u i ≤ 1048576 ∧ 0 ≤ e i ∧ e i ≤ 8)
theorem sprB_of {n : Nat} {u m e : Nat → Int} (h : sprB n u m e = true) : fitS n u m e := by unfold sprB at h; rw [decide_eq_true_eq] at h; exact h
theorem sprB_no {n : Nat} {u m e : Nat → Int} (h : ¬ fitS n u m e) : sprB n u m e = false := by unfold sprB; rw [decide_eq_false_iff_not]; exact h
theorem sprB_yes {n : Nat} {u m e : Nat → Int} (h : fitS n u m e) : sprB n u m e = true := by unfold sprB; rw [decide_eq_true_eq]; exact h

set_option maxHeartbeats 1000000 in
set_option maxRecDepth 100000 in
theorem may7_any (n : Nat) (u m e : Nat → Int) (v : Value) (w : World) (h : Sprs w v n u m e) :
    Calls Tryd.prog 13 #[v] w fun r w' => r = .returned (.bool (sprB n u m e)) ∧ Below w.heap.size w w' := by
  obtain ⟨ad, cap, rfl, h1, h2, h0, h3⟩ := h
  by_cases hn : (n : Int) > 4
  · have H : Hid (sprB n u m e = false) := sprB_no (fun h => by have := h.1; omega)
    go_enter Tryd.func13, Tryd.ntmps13
    go_wp2
    go_ret
    exact ⟨ret_b H.out.symm, Below.refl _ _⟩
  · go_enter Tryd.func13, Tryd.ntmps13
    go_wp2_with fail
    go_loopw [10] (fun i wr => ∃ (j : Nat), j ≤ n ∧ i = .int .i64 j ∧ Hid (∀ i, i < j → 1 ≤ m i ∧ m i ≤ u i ∧ u i ≤ 1048576 ∧ 0 ≤ e i ∧ e i ≤ 8) ∧ Below w.heap.size w wr) (fun i _ => ((n : Int) - intOf i).toNat)
    case atStart => exact ⟨0, by omega, rfl, (fun i hi => by omega), Below.refl _ _⟩
    case round =>
      obtain ⟨j, hj, rfl, HG, hbw⟩ := hrel
      by_cases hlt : (j : Int) < n
      · obtain ⟨bk, o, rfl, h4⟩ := h3 (by omega)
        obtain ⟨k0, k1, k2⟩ := h4 j (by omega)
        clear h4 h3
        have e0 := cell_later hbw k0
        have e1 := cell_later hbw k1
        have e2 := cell_later hbw k2
        have sb := World.block_lt_of_cell? _ _ k0
        clear k0 k1 k2
        have sw := hbw.size
        obtain ⟨uj, hu⟩ : ∃ x, u j = x := ⟨_, rfl⟩
        obtain ⟨mj, hm⟩ : ∃ x, m j = x := ⟨_, rfl⟩
        obtain ⟨ej, he⟩ : ∃ x, e j = x := ⟨_, rfl⟩
        have HU : Hid (u j = uj ∧ m j = mj ∧ e j = ej) := ⟨hu, hm, he⟩
        rw [hu] at e0; rw [hm] at e1; rw [he] at e2
        clear hu hm he
        have hbox : Below w.heap.size w (wr.alloc (.cells #[.int .i64 uj, .int .i64 mj, .int .i64 ej] 33)) := hbw.alloc sw _
        have HJ : Hid (¬ (1 ≤ mj ∧ mj ≤ uj ∧ uj ≤ 1048576 ∧ 0 ≤ ej ∧ ej ≤ 8) → sprB n u m e = false) := by
          show _ → _
          intro hc
          refine sprB_no (fun h => hc ?_)
          have := h.2 j (by omega)
          rw [HU.out.1, HU.out.2.1, HU.out.2.2] at this
          exact this
        by_cases c1 : 1 ≤ mj ∧ mj ≤ uj
        · have d1 : Hid (wiB mj 1 uj = true) := decide_eq_true c1
          by_cases c2 : uj > 1048576
          · have H : Hid (sprB n u m e = false) := HJ.out (by omega)
            clear HJ c1
            go_wp2_with fail
            refine (within7_any _ _ _ _).mono ?_
            rintro r w1 ⟨rfl, rfl⟩
            rw [d1.out]
            go_wp2
            go_ret
            exact ⟨ret_b H.out.symm, hbox⟩
          · by_cases c3 : 0 ≤ ej ∧ ej ≤ 8
            · have d3 : Hid (wiB ej 0 8 = true) := decide_eq_true c3
              have HN : Hid (∀ i, i < j + 1 → 1 ≤ m i ∧ m i ≤ u i ∧ u i ≤ 1048576 ∧ 0 ≤ e i ∧ e i ≤ 8) := by
                intro i hi
                rcases Nat.lt_succ_iff_lt_or_eq.1 hi with hi | rfl
                · exact HG.out i hi
                · rw [HU.out.1, HU.out.2.1, HU.out.2.2]; omega
              clear HJ c1 c3
              go_wp2_with fail
              refine (within7_any _ _ _ _).mono ?_
              rintro r w1 ⟨rfl, rfl⟩
              rw [d1.out]
              go_wp2_with fail
              refine (within7_any _ _ _ _).mono ?_
              rintro r w1 ⟨rfl, rfl⟩
              rw [d3.out]
              go_wp2_with fail
              go_roundw
              case rel => exact ⟨j + 1, by omega, by go_num, HN.out, hbox⟩
              case measure => simp [intOf]; omega
            · have d3 : Hid (wiB ej 0 8 = false) := decide_eq_false c3
              have H : Hid (sprB n u m e = false) := HJ.out (by omega)
              clear HJ c1 c3
              go_wp2_with fail
              refine (within7_any _ _ _ _).mono ?_
              rintro r w1 ⟨rfl, rfl⟩
              rw [d1.out]
              go_wp2_with fail
              refine (within7_any _ _ _ _).mono ?_
              rintro r w1 ⟨rfl, rfl⟩
              rw [d3.out]
              go_wp2
              go_ret
              exact ⟨ret_b H.out.symm, hbox⟩
        · have d1 : Hid (wiB mj 1 uj = false) := decide_eq_false c1
          have H : Hid (sprB n u m e = false) := HJ.out (by omega)
          clear HJ c1
          go_wp2_with fail
          refine (within7_any _ _ _ _).mono ?_
          rintro r w1 ⟨rfl, rfl⟩
          rw [d1.out]
          go_wp2
          go_ret
          exact ⟨ret_b H.out.symm, hbox⟩
      · have hjk : j = n := by omega
        subst hjk
        have H : Hid (sprB j u m e = true) := sprB_yes ⟨by omega, HG.out⟩
        go_wp2
        go_ret
        exact ⟨ret_b H.out.symm, hbw⟩

/-- Is there room for springs? -/
def roomB (n : Nat) (u m e : Nat → Int) (load : Int) : Bool := sprB n u m e && (wiB load 0 1099511627776 && decide (sm n (lo7 u m e) ≤ load))

set_option maxHeartbeats 1000000 in
set_option maxRecDepth 100000 in
theorem room7_any (n : Nat) (u m e : Nat → Int) (load : Int) (v : Value) (w : World) (h : Sprs w v n u m e) (hL : Lim w) :
    Calls Tryd.prog 15 #[v, .int .i64 load] w fun r w' => r = .returned (.bool (roomB n u m e load)) ∧ Below w.heap.size w w' := by
  cases hm : sprB n u m e
  · have HM : Hid (sprB n u m e = false) := hm
    have H : Hid (roomB n u m e load = false) := by show _ = _; unfold roomB; rw [hm]; rfl
    clear hm
    go_enter Tryd.func15, Tryd.ntmps15
    go_wp2_with fail
    refine (may7_any n u m e v _ h).mono ?_
    rintro r w1 ⟨rfl, hb1⟩
    rw [HM.out]
    go_wp2
    go_ret
    exact ⟨ret_b H.out.symm, hb1⟩
  · have HM : Hid (sprB n u m e = true) := hm
    cases hw : wiB load 0 1099511627776
    · have HW : Hid (wiB load 0 1099511627776 = false) := hw
      have H : Hid (roomB n u m e load = false) := by show _ = _; unfold roomB; rw [hm, hw]; rfl
      clear hm hw
      go_enter Tryd.func15, Tryd.ntmps15
      go_wp2_with fail
      refine (may7_any n u m e v _ h).mono ?_
      rintro r w1 ⟨rfl, hb1⟩
      rw [HM.out]
      go_wp2_with fail
      refine (within7_any _ _ _ _).mono ?_
      rintro r w2 ⟨rfl, rfl⟩
      rw [HW.out]
      go_wp2
      go_ret
      exact ⟨ret_b H.out.symm, hb1⟩
    · have HW : Hid (wiB load 0 1099511627776 = true) := hw
      have H : Hid (roomB n u m e load = decide (sm n (lo7 u m e) ≤ load)) := by show _ = _; unfold roomB; rw [hm, hw]; rfl
      clear hm hw
      go_enter Tryd.func15, Tryd.ntmps15
      go_wp2_with fail
      refine (may7_any n u m e v _ h).mono ?_
      rintro r w1 ⟨rfl, hb1⟩
      rw [HM.out]
      go_wp2_with fail
      refine (within7_any _ _ _ _).mono ?_
      rintro r w2 ⟨rfl, rfl⟩
      rw [HW.out]
      go_wp2_with fail
      refine (total_least n u m e v _ (h.later hb1) (sprB_of HM.out) (hL.later hb1)).mono ?_
      rintro r w3 ⟨rfl, hb3⟩
      go_wp2
      go_ret
      exact ⟨ret_b H.out.symm, hb1.trans (hb3.mono hb1.size)⟩
end Go.Proofs.YtjiockmphbhljaaDoor
