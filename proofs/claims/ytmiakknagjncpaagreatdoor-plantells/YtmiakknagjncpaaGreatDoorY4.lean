/- Texts that belong together, one behind the other: X4, X5. -/
import Derived.Test.YtmiakknagjncpaaGreatDoorY3
import Derived.Maps.RangeWalk
import Derived.Maps.Views
/- Walks of package spring: what is told of each, and all of it together; May and Room. -/
namespace Go.Proofs.YtmiakknagjncpaaGreatDoor
open Go.RowKit

/-- g of the first n numbers, one by one. -/
def lst7 (n : Nat) (g : Nat → Int) : List Int := (List.range n).map g
theorem lst7_len (n : Nat) (g : Nat → Int) : (lst7 n g).length = n := by simp [lst7]
theorem lst7_at {n : Nat} {g : Nat → Int} {i : Nat} (h : i < n) : (lst7 n g).getD i 0 = g i := by simp [lst7, List.getD, h]
theorem lst7_sum (n : Nat) (g : Nat → Int) : (lst7 n g).sum = sm n g := by
  unfold lst7
  induction n with
  | zero => rfl
  | succ n ih => rw [List.range_succ, List.map_append, List.sum_append, ih]; simp [sm]
/-- Those of which the first j are written. -/
def upto7 (n : Nat) (g : Nat → Int) (j : Nat) : List Value := (List.range n).map fun t => .int .i64 (if t < j then g t else 0)
theorem upto7_zero (n : Nat) (g : Nat → Int) : List.replicate n (Value.int .i64 0) = upto7 n g 0 := by
  apply List.ext_getElem
  · simp [upto7]
  · intro i h1 h2; simp [upto7]
theorem upto7_step (n : Nat) (g : Nat → Int) (j : Nat) : (upto7 n g j).set j (.int .i64 (g j)) = upto7 n g (j + 1) := by
  apply List.ext_getElem
  · simp [upto7]
  · intro i h1 h2
    simp only [upto7, List.getElem_set, List.getElem_map, List.getElem_range]
    by_cases e : j = i
    · subst e; simp
    · rw [if_neg e]
      by_cases c : i < j
      · rw [if_pos c, if_pos (by omega)]
      · rw [if_neg c, if_neg (by omega)]
theorem upto7_at (n : Nat) (g : Nat → Int) (j : Nat) (h : j < n) : (upto7 n g j)[j]? = some (.int .i64 0) := by
  unfold upto7; rw [List.getElem?_map, List.getElem?_range h]; simp
theorem upto7_end (n : Nat) (g : Nat → Int) : upto7 n g n = ivs (lst7 n g) := by
  apply List.ext_getElem
  · simp [upto7, ivs, lst7]
  · intro i h1 h2
    simp [upto7, ivs, lst7] at h1 h2 ⊢
    intro h; omega

/-- A list of the call's own, of integers. -/
def OwnI (B : Nat) (xs : List Int) (w : World) (r : Ending) (w' : World) : Prop :=
  ∃ v, r = .returned v ∧ w'.ownsRow B 3 1 v xs.length (ivs xs) ∧ Below B w w'

/-- What springs must be to be pressed. -/
def fitS (n : Nat) (u m e : Nat → Int) : Prop := n ≤ 4 ∧ ∀ i, i < n → 1 ≤ m i ∧ m i ≤ u i ∧ u i ≤ 1048576 ∧ 0 ≤ e i ∧ e i ≤ 8
def lo7 (u m e : Nat → Int) (i : Nat) : Int := lea (u i) (m i) (e i)
theorem fitS.sp {n : Nat} {u m e : Nat → Int} (h : fitS n u m e) : Sp7 n u (lo7 u m e) e := by
  refine ⟨h.1, fun i hi => ?_, fun i hi => ?_, fun i hi => (h.2 i hi).2.2.1, fun i hi => (h.2 i hi).2.2.2.1, fun i hi => (h.2 i hi).2.2.2.2, fun i hi he => ?_⟩
  · have := h.2 i hi; unfold lo7 lea; split <;> omega
  · have := h.2 i hi; unfold lo7 lea; split <;> omega
  · unfold lo7 lea; rw [if_pos he]

set_option maxHeartbeats 1000000 in
set_option maxRecDepth 100000 in
theorem each_least (n : Nat) (u m e : Nat → Int) (v : Value) (w : World) (h : Sprs w v n u m e) (hn : n ≤ 4) :
    Calls Tryz.prog 44 #[v, .func (.func 43) #[] #[]] w (OwnI w.heap.size (lst7 n (lo7 u m e)) w) := by
  obtain ⟨i0, hi, hz0, hz1, hz2⟩ := info_parts Tryz.infoInt
  obtain ⟨ad, cap, rfl, h1, h2, h0, h3⟩ := h
  unfold OwnI
  rw [lst7_len]
  go_enter Tryz.func44, Tryz.ntmps44
  go_wp2_with (first
    | (at_make; refine wpList_make_full _ rfl _ _ 51 rfl w.heap.size 3 i0 (.int .i64 0) 1 Tryz.underlying51 hi hz0 hz1 .i64 .i64 n n n rfl rfl rfl rfl (by rw [hz2]; omega) (by unfold maxLen; omega) (Nat.le_refl _) ?_; intro w1 hown hgrow))
  rw [show Value.cells (.int .i64 0) = #[.int .i64 0] from rfl, Nat.mul_one, toList_madeCells_one, upto7_zero n (lo7 u m e)] at hown
  have hb1 : Below w.heap.size w w1 := (Below.refl _ _).grown hgrow (Nat.le_refl _) (by intro k hk; cases hk)
  clear hgrow
  go_wp2_with fail
  go_loopw [13] (fun i wr => ∃ (j : Nat), j ≤ n ∧ i = .int .i64 j ∧ wr.ownsRow w.heap.size 3 1 (.slice (some ⟨w.heap.size, 0, none⟩) n n) n (upto7 n (lo7 u m e) j) ∧ Below w.heap.size w wr) (fun i _ => ((n : Int) - intOf i).toNat)
  case atStart => exact ⟨0, by omega, rfl, hown, hb1⟩
  case round =>
    clear hown hb1
    obtain ⟨j, hj, rfl, hown, hbw⟩ := hrel
    by_cases hlt : (j : Int) < n
    · obtain ⟨bk, o, rfl, h4⟩ := h3 (by omega)
      obtain ⟨k0, k1, k2⟩ := h4 j (by omega)
      clear h4 h3
      have e0 := cell_later hbw k0
      have e1 := cell_later hbw k1
      have e2 := cell_later hbw k2
      have sb := World.block_lt_of_cell? _ _ k0
      clear k0 k1 k2
      have sw := hbw.size
      obtain ⟨uj, hu⟩ : ∃ x, u j = x := ⟨_, rfl⟩
      obtain ⟨mj, hm⟩ : ∃ x, m j = x := ⟨_, rfl⟩
      obtain ⟨ej, he⟩ : ∃ x, e j = x := ⟨_, rfl⟩
      have HU : Hid (u j = uj ∧ m j = mj ∧ e j = ej) := ⟨hu, hm, he⟩
      rw [hu] at e0; rw [hm] at e1; rw [he] at e2
      clear hu hm he
      go_wp2_with fail
      have hbox : Below w.heap.size w (wr.alloc (.cells #[.int .i64 uj, .int .i64 mj, .int .i64 ej] 47)) := hbw.alloc sw _
      have hown1 := hown.alloc (.cells #[.int .i64 uj, .int .i64 mj, .int .i64 ej] 47)
      refine (least7_any _ _ _ _).mono ?_
      rintro r w2 ⟨rfl, hb2⟩
      have hown2 := own_later hown1 hb2
      have hb : Below w.heap.size w w2 := hbox.trans (hb2.mono hbox.size)
      clear hb2 hbox hown1 hown
      have hcj := (hown2.cellAt j (by omega)).trans (upto7_at n _ j (by omega))
      have hfj := hown2.frozenAt j
      go_wp2_with fail
      go_roundw
      case rel =>
        have hst := hown2.stored j (.int .i64 ((lo7 u m e) j))
        rw [upto7_step] at hst
        obtain ⟨rfl, rfl, rfl⟩ := HU.out
        exact ⟨j + 1, by omega, by go_num, hst.1, hb.setCell (Nat.le_refl _) _⟩
      case measure => simp [intOf]; omega
    · have hjk : j = n := by omega
      subst hjk
      rw [upto7_end] at hown
      go_wp2_with fail
      go_ret
      exact ⟨_, rfl, hown, hbw⟩

set_option maxHeartbeats 1000000 in
set_option maxRecDepth 100000 in
theorem each_top (n : Nat) (u m e : Nat → Int) (v : Value) (w : World) (h : Sprs w v n u m e) (hn : n ≤ 4) :
    Calls Tryz.prog 44 #[v, .func (.func 61) #[] #[]] w (OwnI w.heap.size (lst7 n u) w) := by
  obtain ⟨i0, hi, hz0, hz1, hz2⟩ := info_parts Tryz.infoInt
  obtain ⟨ad, cap, rfl, h1, h2, h0, h3⟩ := h
  unfold OwnI
  rw [lst7_len]
  go_enter Tryz.func44, Tryz.ntmps44
  go_wp2_with (first
    | (at_make; refine wpList_make_full _ rfl _ _ 51 rfl w.heap.size 3 i0 (.int .i64 0) 1 Tryz.underlying51 hi hz0 hz1 .i64 .i64 n n n rfl rfl rfl rfl (by rw [hz2]; omega) (by unfold maxLen; omega) (Nat.le_refl _) ?_; intro w1 hown hgrow))
  rw [show Value.cells (.int .i64 0) = #[.int .i64 0] from rfl, Nat.mul_one, toList_madeCells_one, upto7_zero n u] at hown
  have hb1 : Below w.heap.size w w1 := (Below.refl _ _).grown hgrow (Nat.le_refl _) (by intro k hk; cases hk)
  clear hgrow
  go_wp2_with fail
  go_loopw [13] (fun i wr => ∃ (j : Nat), j ≤ n ∧ i = .int .i64 j ∧ wr.ownsRow w.heap.size 3 1 (.slice (some ⟨w.heap.size, 0, none⟩) n n) n (upto7 n u j) ∧ Below w.heap.size w wr) (fun i _ => ((n : Int) - intOf i).toNat)
  case atStart => exact ⟨0, by omega, rfl, hown, hb1⟩
  case round =>
    clear hown hb1
    obtain ⟨j, hj, rfl, hown, hbw⟩ := hrel
    by_cases hlt : (j : Int) < n
    · obtain ⟨bk, o, rfl, h4⟩ := h3 (by omega)
      obtain ⟨k0, k1, k2⟩ := h4 j (by omega)
      clear h4 h3
      have e0 := cell_later hbw k0
      have e1 := cell_later hbw k1
      have e2 := cell_later hbw k2
      have sb := World.block_lt_of_cell? _ _ k0
      clear k0 k1 k2
      have sw := hbw.size
      obtain ⟨uj, hu⟩ : ∃ x, u j = x := ⟨_, rfl⟩
      obtain ⟨mj, hm⟩ : ∃ x, m j = x := ⟨_, rfl⟩
      obtain ⟨ej, he⟩ : ∃ x, e j = x := ⟨_, rfl⟩
      have HU : Hid (u j = uj ∧ m j = mj ∧ e j = ej) := ⟨hu, hm, he⟩
      rw [hu] at e0; rw [hm] at e1; rw [he] at e2
      clear hu hm he
      go_wp2_with fail
      have hbox : Below w.heap.size w (wr.alloc (.cells #[.int .i64 uj, .int .i64 mj, .int .i64 ej] 47)) := hbw.alloc sw _
      have hown1 := hown.alloc (.cells #[.int .i64 uj, .int .i64 mj, .int .i64 ej] 47)
      refine (top7_any _ _ _ _).mono ?_
      rintro r w2 ⟨rfl, hb2⟩
      have hown2 := own_later hown1 hb2
      have hb : Below w.heap.size w w2 := hbox.trans (hb2.mono hbox.size)
      clear hb2 hbox hown1 hown
      have hcj := (hown2.cellAt j (by omega)).trans (upto7_at n _ j (by omega))
      have hfj := hown2.frozenAt j
      go_wp2_with fail
      go_roundw
      case rel =>
        have hst := hown2.stored j (.int .i64 (u j))
        rw [upto7_step] at hst
        obtain ⟨rfl, rfl, rfl⟩ := HU.out
        exact ⟨j + 1, by omega, by go_num, hst.1, hb.setCell (Nat.le_refl _) _⟩
      case measure => simp [intOf]; omega
    · have hjk : j = n := by omega
      subst hjk
      rw [upto7_end] at hown
      go_wp2_with fail
      go_ret
      exact ⟨_, rfl, hown, hbw⟩

set_option maxHeartbeats 1000000 in
set_option maxRecDepth 100000 in
theorem each_has (n : Nat) (u m e : Nat → Int) (v : Value) (w : World) (a b : Int) (c : Nat) (a0 : 0 ≤ a) (a1 : a ≤ 4194304) (b1 : 1 ≤ b) (b32 : b ≤ 32) (hD : Duo w c a b) (hS : fitS n u m e) (h : Sprs w v n u m e) (hn : n ≤ 4) :
    Calls Tryz.prog 44 #[v, .func (.func 66) #[] #[.pointer (some ⟨c, 0, none⟩)]] w (OwnI w.heap.size (lst7 n (fun i => hasV (u i) (m i) (e i) a b)) w) := by
  obtain ⟨i0, hi, hz0, hz1, hz2⟩ := info_parts Tryz.infoInt
  obtain ⟨ad, cap, rfl, h1, h2, h0, h3⟩ := h
  unfold OwnI
  rw [lst7_len]
  go_enter Tryz.func44, Tryz.ntmps44
  go_wp2_with (first
    | (at_make; refine wpList_make_full _ rfl _ _ 51 rfl w.heap.size 3 i0 (.int .i64 0) 1 Tryz.underlying51 hi hz0 hz1 .i64 .i64 n n n rfl rfl rfl rfl (by rw [hz2]; omega) (by unfold maxLen; omega) (Nat.le_refl _) ?_; intro w1 hown hgrow))
  rw [show Value.cells (.int .i64 0) = #[.int .i64 0] from rfl, Nat.mul_one, toList_madeCells_one, upto7_zero n (fun i => hasV (u i) (m i) (e i) a b)] at hown
  have hb1 : Below w.heap.size w w1 := (Below.refl _ _).grown hgrow (Nat.le_refl _) (by intro k hk; cases hk)
  clear hgrow
  go_wp2_with fail
  go_loopw [13] (fun i wr => ∃ (j : Nat), j ≤ n ∧ i = .int .i64 j ∧ wr.ownsRow w.heap.size 3 1 (.slice (some ⟨w.heap.size, 0, none⟩) n n) n (upto7 n (fun i => hasV (u i) (m i) (e i) a b) j) ∧ Below w.heap.size w wr) (fun i _ => ((n : Int) - intOf i).toNat)
  case atStart => exact ⟨0, by omega, rfl, hown, hb1⟩
  case round =>
    clear hown hb1
    obtain ⟨j, hj, rfl, hown, hbw⟩ := hrel
    by_cases hlt : (j : Int) < n
    · obtain ⟨bk, o, rfl, h4⟩ := h3 (by omega)
      obtain ⟨k0, k1, k2⟩ := h4 j (by omega)
      have HS : Hid (1 ≤ m j ∧ m j ≤ u j ∧ u j ≤ 1048576 ∧ 0 ≤ e j ∧ e j ≤ 8) := hS.2 j (by omega)
      clear h4 h3
      have e0 := cell_later hbw k0
      have e1 := cell_later hbw k1
      have e2 := cell_later hbw k2
      have sb := World.block_lt_of_cell? _ _ k0
      clear k0 k1 k2
      have sw := hbw.size
      obtain ⟨uj, hu⟩ : ∃ x, u j = x := ⟨_, rfl⟩
      obtain ⟨mj, hm⟩ : ∃ x, m j = x := ⟨_, rfl⟩
      obtain ⟨ej, he⟩ : ∃ x, e j = x := ⟨_, rfl⟩
      have HU : Hid (u j = uj ∧ m j = mj ∧ e j = ej) := ⟨hu, hm, he⟩
      rw [hu] at e0; rw [hm] at e1; rw [he] at e2
      clear hu hm he
      go_wp2_with fail
      have hbox : Below w.heap.size w (wr.alloc (.cells #[.int .i64 uj, .int .i64 mj, .int .i64 ej] 47)) := hbw.alloc sw _
      have hown1 := hown.alloc (.cells #[.int .i64 uj, .int .i64 mj, .int .i64 ej] 47)
      obtain ⟨y1, y2, y3, y4, y5⟩ := HS.out
      rw [HU.out.1] at y2 y3; rw [HU.out.2.1] at y1 y2; rw [HU.out.2.2] at y4 y5
      refine (has7_any _ _ _ a b c _ (by omega) y3 y4 y5 a0 a1 b1 b32 ((hD.later hbw).later ((Below.refl _ _).alloc (Nat.le_refl _) _))).mono ?_
      rintro r w2 ⟨rfl, hb2⟩
      have hown2 := own_later hown1 hb2
      have hb : Below w.heap.size w w2 := hbox.trans (hb2.mono hbox.size)
      clear hb2 hbox hown1 hown
      have hcj := (hown2.cellAt j (by omega)).trans (upto7_at n _ j (by omega))
      have hfj := hown2.frozenAt j
      go_wp2_with fail
      go_roundw
      case rel =>
        have hst := hown2.stored j (.int .i64 ((fun i => hasV (u i) (m i) (e i) a b) j))
        rw [upto7_step] at hst
        obtain ⟨rfl, rfl, rfl⟩ := HU.out
        exact ⟨j + 1, by omega, by go_num, hst.1, hb.setCell (Nat.le_refl _) _⟩
      case measure => simp [intOf]; omega
    · have hjk : j = n := by omega
      subst hjk
      rw [upto7_end] at hown
      go_wp2_with fail
      go_ret
      exact ⟨_, rfl, hown, hbw⟩

theorem sumB_lst {n : Nat} {g : Nat → Int} (hn : n ≤ 4) (h : ∀ i, i < n → 0 ≤ g i ∧ g i ≤ 1048576) : sumB (lst7 n g) = true := by
  unfold sumB
  rw [lst7_len, decide_eq_true (show n ≤ 1000 by omega), Bool.true_and, List.all_eq_true]
  intro x hx
  obtain ⟨i, hi, rfl⟩ := List.mem_map.1 hx
  have := h i (List.mem_range.1 hi)
  exact decide_eq_true (show 0 ≤ g i ∧ g i ≤ 1099511627776 by omega)
theorem sumV_lst {n : Nat} {g : Nat → Int} (hn : n ≤ 4) (h : ∀ i, i < n → 0 ≤ g i ∧ g i ≤ 1048576) : sumV (lst7 n g) = sm n g := by
  rw [sum_yes (sumB_lst hn h), lst7_sum]

set_option maxHeartbeats 1000000 in
set_option maxRecDepth 100000 in
theorem total_least (n : Nat) (u m e : Nat → Int) (v : Value) (w : World) (h : Sprs w v n u m e) (hS : fitS n u m e) (hL : Lim w) :
    Calls Tryz.prog 42 #[v, .func (.func 43) #[] #[]] w fun r w' => r = .returned (.int .i64 (sm n (lo7 u m e))) ∧ Below w.heap.size w w' := by
  have HB : Hid (sumV (lst7 n (lo7 u m e)) = sm n (lo7 u m e)) := sumV_lst hS.1 (fun i hi => by have := hS.2 i hi; have := hS.sp.low i hi; have := hS.sp.top i hi; omega)
  have HN : Hid (n ≤ 4) := hS.1
  go_enter Tryz.func42, Tryz.ntmps42
  go_wp2_with fail
  refine (each_least n u m e v _ h HN.out).mono ?_
  rintro r w1 ⟨x, rfl, hown, hb1⟩
  have hN := (Nums.own hown).1
  have hL1 := hL.later hb1
  clear hown
  go_wp2_with fail
  refine (sum_any _ _ _ hN hL1).mono ?_
  rintro r w2 ⟨rfl, rfl⟩
  rw [HB.out]
  go_wp2
  go_ret
  exact ⟨rfl, hb1⟩

set_option maxHeartbeats 1000000 in
set_option maxRecDepth 100000 in
theorem total_top (n : Nat) (u m e : Nat → Int) (v : Value) (w : World) (h : Sprs w v n u m e) (hS : fitS n u m e) (hL : Lim w) :
    Calls Tryz.prog 42 #[v, .func (.func 61) #[] #[]] w fun r w' => r = .returned (.int .i64 (sm n u)) ∧ Below w.heap.size w w' := by
  have HB : Hid (sumV (lst7 n u) = sm n u) := sumV_lst hS.1 (fun i hi => by have := hS.2 i hi; have := hS.sp.low i hi; have := hS.sp.top i hi; omega)
  have HN : Hid (n ≤ 4) := hS.1
  go_enter Tryz.func42, Tryz.ntmps42
  go_wp2_with fail
  refine (each_top n u m e v _ h HN.out).mono ?_
  rintro r w1 ⟨x, rfl, hown, hb1⟩
  have hN := (Nums.own hown).1
  have hL1 := hL.later hb1
  clear hown
  go_wp2_with fail
  refine (sum_any _ _ _ hN hL1).mono ?_
  rintro r w2 ⟨rfl, rfl⟩
  rw [HB.out]
  go_wp2
  go_ret
  exact ⟨rfl, hb1⟩

/-- May springs be? -/
def sprB (n : Nat) (u m e : Nat → Int) : Bool := decide (n ≤ 4 ∧ ∀ i, i < n → 1 ≤ m i ∧ m i ≤ u i ∧ u i ≤ 1048576 ∧ 0 ≤ e i ∧ e i ≤ 8)
theorem sprB_of {n : Nat} {u m e : Nat → Int} (h : sprB n u m e = true) : fitS n u m e := by unfold sprB at h; rw [decide_eq_true_eq] at h; exact h
theorem sprB_no {n : Nat} {u m e : Nat → Int} (h : ¬ fitS n u m e) : sprB n u m e = false := by unfold sprB; rw [decide_eq_false_iff_not]; exact h
theorem sprB_yes {n : Nat} {u m e : Nat → Int} (h : fitS n u m e) : sprB n u m e = true := by unfold sprB; rw [decide_eq_true_eq]; exact h

set_option maxHeartbeats 1000000 in
set_option maxRecDepth 100000 in
theorem may7_any (n : Nat) (u m e : Nat → Int) (v : Value) (w : World) (h : Sprs w v n u m e) :
    Calls Tryz.prog 40 #[v] w fun r w' => r = .returned (.bool (sprB n u m e)) ∧ Below w.heap.size w w' := by
  obtain ⟨ad, cap, rfl, h1, h2, h0, h3⟩ := h
  by_cases hn : (n : Int) > 4
  · have H : Hid (sprB n u m e = false) := sprB_no (fun h => by have := h.1; omega)
    go_enter Tryz.func40, Tryz.ntmps40
    go_wp2
    go_ret
    exact ⟨ret_b H.out.symm, Below.refl _ _⟩
  · go_enter Tryz.func40, Tryz.ntmps40
    go_wp2_with fail
    go_loopw [10] (fun i wr => ∃ (j : Nat), j ≤ n ∧ i = .int .i64 j ∧ Hid (∀ i, i < j → 1 ≤ m i ∧ m i ≤ u i ∧ u i ≤ 1048576 ∧ 0 ≤ e i ∧ e i ≤ 8) ∧ Below w.heap.size w wr) (fun i _ => ((n : Int) - intOf i).toNat)
    case atStart => exact ⟨0, by omega, rfl, (fun i hi => by omega), Below.refl _ _⟩
    case round =>
      obtain ⟨j, hj, rfl, HG, hbw⟩ := hrel
      by_cases hlt : (j : Int) < n
      · obtain ⟨bk, o, rfl, h4⟩ := h3 (by omega)
        obtain ⟨k0, k1, k2⟩ := h4 j (by omega)
        clear h4 h3
        have e0 := cell_later hbw k0
        have e1 := cell_later hbw k1
        have e2 := cell_later hbw k2
        have sb := World.block_lt_of_cell? _ _ k0
        clear k0 k1 k2
        have sw := hbw.size
        obtain ⟨uj, hu⟩ : ∃ x, u j = x := ⟨_, rfl⟩
        obtain ⟨mj, hm⟩ : ∃ x, m j = x := ⟨_, rfl⟩
        obtain ⟨ej, he⟩ : ∃ x, e j = x := ⟨_, rfl⟩
        have HU : Hid (u j = uj ∧ m j = mj ∧ e j = ej) := ⟨hu, hm, he⟩
        rw [hu] at e0; rw [hm] at e1; rw [he] at e2
        clear hu hm he
        have hbox : Below w.heap.size w (wr.alloc (.cells #[.int .i64 uj, .int .i64 mj, .int .i64 ej] 47)) := hbw.alloc sw _
        have HJ : Hid (¬ (1 ≤ mj ∧ mj ≤ uj ∧ uj ≤ 1048576 ∧ 0 ≤ ej ∧ ej ≤ 8) → sprB n u m e = false) := by
          show _ → _
          intro hc
          refine sprB_no (fun h => hc ?_)
          have := h.2 j (by omega)
          rw [HU.out.1, HU.out.2.1, HU.out.2.2] at this
          exact this
        by_cases c1 : 1 ≤ mj ∧ mj ≤ uj
        · have d1 : Hid (wiB mj 1 uj = true) := decide_eq_true c1
          by_cases c2 : uj > 1048576
          · have H : Hid (sprB n u m e = false) := HJ.out (by omega)
            clear HJ c1
            go_wp2_with fail
            refine (within7_any _ _ _ _).mono ?_
            rintro r w1 ⟨rfl, rfl⟩
            rw [d1.out]
            go_wp2
            go_ret
            exact ⟨ret_b H.out.symm, hbox⟩
          · by_cases c3 : 0 ≤ ej ∧ ej ≤ 8
            · have d3 : Hid (wiB ej 0 8 = true) := decide_eq_true c3
              have HN : Hid (∀ i, i < j + 1 → 1 ≤ m i ∧ m i ≤ u i ∧ u i ≤ 1048576 ∧ 0 ≤ e i ∧ e i ≤ 8) := by
                intro i hi
                rcases Nat.lt_succ_iff_lt_or_eq.1 hi with hi | rfl
                · exact HG.out i hi
                · rw [HU.out.1, HU.out.2.1, HU.out.2.2]; omega
              clear HJ c1 c3
              go_wp2_with fail
              refine (within7_any _ _ _ _).mono ?_
              rintro r w1 ⟨rfl, rfl⟩
              rw [d1.out]
              go_wp2_with fail
              refine (within7_any _ _ _ _).mono ?_
              rintro r w1 ⟨rfl, rfl⟩
              rw [d3.out]
              go_wp2_with fail
              go_roundw
              case rel => exact ⟨j + 1, by omega, by go_num, HN.out, hbox⟩
              case measure => simp [intOf]; omega
            · have d3 : Hid (wiB ej 0 8 = false) := decide_eq_false c3
              have H : Hid (sprB n u m e = false) := HJ.out (by omega)
              clear HJ c1 c3
              go_wp2_with fail
              refine (within7_any _ _ _ _).mono ?_
              rintro r w1 ⟨rfl, rfl⟩
              rw [d1.out]
              go_wp2_with fail
              refine (within7_any _ _ _ _).mono ?_
              rintro r w1 ⟨rfl, rfl⟩
              rw [d3.out]
              go_wp2
              go_ret
              exact ⟨ret_b H.out.symm, hbox⟩
        · have d1 : Hid (wiB mj 1 uj = false) := decide_eq_false c1
          have H : Hid (sprB n u m e = false) := HJ.out (by omega)
          clear HJ c1
          go_wp2_with fail
          refine (within7_any _ _ _ _).mono ?_
          rintro r w1 ⟨rfl, rfl⟩
          rw [d1.out]
          go_wp2
          go_ret
          exact ⟨ret_b H.out.symm, hbox⟩
      · have hjk : j = n := by omega
        subst hjk
        have H : Hid (sprB j u m e = true) := sprB_yes ⟨by omega, HG.out⟩
        go_wp2
        go_ret
        exact ⟨ret_b H.out.symm, hbw⟩

/-- Is there room for springs? -/
def roomB (n : Nat) (u m e : Nat → Int) (load : Int) : Bool := sprB n u m e && (wiB load 0 1099511627776 && decide (sm n (lo7 u m e) ≤ load))

set_option maxHeartbeats 1000000 in
set_option maxRecDepth 100000 in
theorem room7_any (n : Nat) (u m e : Nat → Int) (load : Int) (v : Value) (w : World) (h : Sprs w v n u m e) (hL : Lim w) :
    Calls Tryz.prog 23 #[v, .int .i64 load] w fun r w' => r = .returned (.bool (roomB n u m e load)) ∧ Below w.heap.size w w' := by
  cases hm : sprB n u m e
  · have HM : Hid (sprB n u m e = false) := hm
    have H : Hid (roomB n u m e load = false) := by show _ = _; unfold roomB; rw [hm]; rfl
    clear hm
    go_enter Tryz.func23, Tryz.ntmps23
    go_wp2_with fail
    refine (may7_any n u m e v _ h).mono ?_
    rintro r w1 ⟨rfl, hb1⟩
    rw [HM.out]
    go_wp2
    go_ret
    exact ⟨ret_b H.out.symm, hb1⟩
  · have HM : Hid (sprB n u m e = true) := hm
    cases hw : wiB load 0 1099511627776
    · have HW : Hid (wiB load 0 1099511627776 = false) := hw
      have H : Hid (roomB n u m e load = false) := by show _ = _; unfold roomB; rw [hm, hw]; rfl
      clear hm hw
      go_enter Tryz.func23, Tryz.ntmps23
      go_wp2_with fail
      refine (may7_any n u m e v _ h).mono ?_
      rintro r w1 ⟨rfl, hb1⟩
      rw [HM.out]
      go_wp2_with fail
      refine (within7_any _ _ _ _).mono ?_
      rintro r w2 ⟨rfl, rfl⟩
      rw [HW.out]
      go_wp2
      go_ret
      exact ⟨ret_b H.out.symm, hb1⟩
    · have HW : Hid (wiB load 0 1099511627776 = true) := hw
      have H : Hid (roomB n u m e load = decide (sm n (lo7 u m e) ≤ load)) := by show _ = _; unfold roomB; rw [hm, hw]; rfl
      clear hm hw
      go_enter Tryz.func23, Tryz.ntmps23
      go_wp2_with fail
      refine (may7_any n u m e v _ h).mono ?_
      rintro r w1 ⟨rfl, hb1⟩
      rw [HM.out]
      go_wp2_with fail
      refine (within7_any _ _ _ _).mono ?_
      rintro r w2 ⟨rfl, rfl⟩
      rw [HW.out]
      go_wp2_with fail
      refine (total_least n u m e v _ (h.later hb1) (sprB_of HM.out) (hL.later hb1)).mono ?_
      rintro r w3 ⟨rfl, hb3⟩
      go_wp2
      go_ret
      exact ⟨ret_b H.out.symm, hb1.trans (hb3.mono hb1.size)⟩
end Go.Proofs.YtmiakknagjncpaaGreatDoor
/- Springs in a map, by where they stand: what it holds, key by key; walks of package spring: yielding, pull, settle. -/
namespace Go.Proofs.YtmiakknagjncpaaGreatDoor
open Go.RowKit Go.Maps

theorem keys7 : Keyed Tryz.prog 3 := int_keyed Tryz.underlying3

def sdat (u m e : Int) : DataW Unit := .agg [.lit (.int .i64 u), .lit (.int .i64 m), .lit (.int .i64 e)]
/-- How a spring reads. -/
def sprElem (v : Value) : Option (DataW Unit × List MemPlace) :=
  match v with
  | .agg cs => match cs.toList with
    | [.int .i64 u, .int .i64 m, .int .i64 e] => some (sdat u m e, [])
    | _ => none
  | _ => none
theorem sprElem_mk (u m e : Int) : sprElem (.agg #[.int .i64 u, .int .i64 m, .int .i64 e]) = some (sdat u m e, []) := rfl
theorem sprElem_inv {v : Value} {y : DataW Unit × List MemPlace} (h : sprElem v = some y) : ∃ u m e, v = .agg #[.int .i64 u, .int .i64 m, .int .i64 e] ∧ y = (sdat u m e, []) := by
  unfold sprElem at h
  split at h
  · next cs =>
    split at h
    · next u m e hc =>
      cases h
      refine ⟨u, m, e, ?_, rfl⟩
      obtain ⟨l⟩ := cs
      simp at hc
      rw [hc]
    · cases h
  · cases h
theorem sdat_inj {u m e u' m' e' : Int} (h : sdat u m e = sdat u' m' e') : u = u' ∧ m = m' ∧ e = e' := by
  unfold sdat at h
  simp at h
  exact h

def key7 (i : Nat) : Lit := .int .i64 i
theorem key7_ne {i j : Nat} (h : i ≠ j) : key7 i ≠ key7 j := by
  intro e; unfold key7 at e; simp at e; omega
theorem key7_is (i : Nat) : WideAt.IsKeyLit (key7 i) := trivial
theorem key7_wf {i : Nat} (h : i ≤ 1000) : (Lit.int .i64 (i : Int)).wf = true := by
  exact Go.WalkArith.wf_i64 (by omega)

/-- What the map holds: those springs of S, each by where it stands. -/
def Hold (D : DataW Unit) (n : Nat) (u m e : Nat → Int) (S : Nat → Bool) : Prop :=
  (∀ kl, Maps.has D kl = true → ∃ i, i < n ∧ S i = true ∧ kl = key7 i) ∧ (∀ i, i < n → S i = true → Maps.has D (key7 i) = true ∧ ∀ zd, D.atKey (key7 i) zd = sdat (u i) (m i) (e i))
def MapS (w : World) (b n : Nat) (u m e : Nat → Int) (S : Nat → Bool) : Prop := ∃ D, w.ownsMap Tryz.prog 3 sprElem b n D ∧ Hold D n u m e S

theorem Hold.congr {D : DataW Unit} {n : Nat} {u m e : Nat → Int} {S T : Nat → Bool} (h : Hold D n u m e S) (hst : ∀ i, i < n → S i = T i) : Hold D n u m e T := by
  refine ⟨fun kl hk => ?_, fun i hi hT => h.2 i hi ((hst i hi).trans hT)⟩
  obtain ⟨i, hi, hS, rfl⟩ := h.1 kl hk
  exact ⟨i, hi, (hst i hi).symm.trans hS, rfl⟩
theorem hold_none (u m e : Nat → Int) (S : Nat → Bool) : Hold (.map []) 0 u m e S :=
  ⟨fun kl hk => by simp [Maps.has] at hk, fun i hi => by omega⟩
theorem Hold.put {D : DataW Unit} {j : Nat} {u m e : Nat → Int} {S : Nat → Bool} (h : Hold D j u m e S) (hD : IsMap D) (hS : S j = true) : Hold (D.put (key7 j) (sdat (u j) (m j) (e j))) (j + 1) u m e S := by
  constructor
  · intro kl hk
    by_cases c : kl = key7 j
    · exact ⟨j, by omega, hS, c⟩
    · rw [has_put_other c] at hk
      obtain ⟨i, hi, h2, rfl⟩ := h.1 kl hk
      exact ⟨i, by omega, h2, rfl⟩
  · intro i hi hSi
    by_cases c : i = j
    · subst c
      exact ⟨has_put_same hD (key7_is _) _, fun zd => atKey_put_same hD (key7_is _) _ _⟩
    · have := h.2 i (by omega) hSi
      exact ⟨by rw [has_put_other (key7_ne c)]; exact this.1, fun zd => by rw [atKey_put_other (key7_ne c)]; exact this.2 zd⟩
theorem Hold.skip {D : DataW Unit} {j : Nat} {u m e : Nat → Int} {S : Nat → Bool} (h : Hold D j u m e S) (hS : S j = false) : Hold D (j + 1) u m e S := by
  refine ⟨fun kl hk => ?_, fun i hi hSi => ?_⟩
  · obtain ⟨i, hi, h2, rfl⟩ := h.1 kl hk
    exact ⟨i, by omega, h2, rfl⟩
  · by_cases c : i = j
    · subst c; rw [hS] at hSi; cases hSi
    · exact h.2 i (by omega) hSi
theorem Hold.del {D : DataW Unit} {n x : Nat} {u m e : Nat → Int} {S T : Nat → Bool} (h : Hold D n u m e S) (hT : ∀ i, i < n → i ≠ x → T i = S i) (hx : T x = false) : Hold (D.del (key7 x)) n u m e T := by
  constructor
  · intro kl hk
    by_cases c : kl = key7 x
    · subst c; rw [has_del_same] at hk; cases hk
    · rw [has_del_other c] at hk
      obtain ⟨i, hi, h2, rfl⟩ := h.1 kl hk
      have : i ≠ x := fun e => c (by rw [e])
      exact ⟨i, hi, (hT i hi this).trans h2, rfl⟩
  · intro i hi hTi
    have c : i ≠ x := fun e => by rw [e, hx] at hTi; cases hTi
    have := h.2 i hi ((hT i hi c).symm.trans hTi)
    exact ⟨by rw [has_del_other (key7_ne c)]; exact this.1, fun zd => by rw [atKey_del_other (key7_ne c)]; exact this.2 zd⟩

theorem MapS.later {w w' : World} {b n : Nat} {u m e : Nat → Int} {S : Nat → Bool} (h : MapS w b n u m e S) (hb : Below w.heap.size w w') : MapS w' b n u m e S := by
  obtain ⟨D, ho, hh⟩ := h
  exact ⟨D, ho.kept (row := none) ⟨hb.os, hb.tape, hb.output, hb.size, fun k hk _ => hb.block k hk⟩ (by simp), hh⟩
theorem MapS.lt {w : World} {b n : Nat} {u m e : Nat → Int} {S : Nat → Bool} (h : MapS w b n u m e S) : b < w.heap.size := by
  obtain ⟨D, ho, _⟩ := h; exact ho.lt
theorem grown_of {w w' : World} (hb : Below w.heap.size w w') : w.grownBy w' none := ⟨hb.os, hb.tape, hb.output, hb.size, fun k hk _ => hb.block k hk⟩
theorem Duo.kept {w w' : World} {c : Nat} {x y : Int} {row : Option Nat} (h : Duo w c x y) (hg : w.grownBy w' row) (hne : some c ≠ row) : Duo w' c x y := by
  have hb := hg.block c h.lt hne
  exact ⟨(World.cell?_of_block (w := w) (a := ⟨c, 0, none⟩) hb).trans h.1, (World.cell?_of_block (w := w) (a := ⟨c, 1, none⟩) hb).trans h.2⟩

/-- What is still to come, without one key. -/
def less7 (left : Lit → Bool) (x : Nat) : Lit → Bool := fun z => left z && !z.sameKey (key7 x)
theorem less7_same (left : Lit → Bool) (x : Nat) : less7 left x (key7 x) = false := by
  unfold less7; rw [WideAt.sameKey_self (key7_is x)]; simp
theorem less7_other (left : Lit → Bool) {x i : Nat} (h : i ≠ x) : less7 left x (key7 i) = left (key7 i) := by
  unfold less7; rw [sameKey_ne (key7_ne h)]; simp
theorem less7_twice (left : Lit → Bool) (x : Nat) : (fun z => less7 left x z && !z.sameKey (key7 x)) = less7 left x := strike_twice left (key7 x)

/-- The step of a range over such a map. -/
theorem next_spr {w : World} {ops : Array Oper} {rest : List Oper} {o : Oper} {act : Act} {Q : Exit → Act → World → Prop} (hg : o.guard = none) (it : Operand) (hop : o.op = Op.next it false)
    (b r n N : Nat) (D : DataW Unit) (left : Lit → Bool) (cnt : Nat) (u m e : Nat → Int) (S : Nat → Bool) (hit : act.eval it = .pointer (some ⟨r, 0, none⟩)) (h : w.ranges Tryz.prog 3 sprElem b r N D left cnt) (hH : Hold D n u m e S)
    (hDone : (∀ kl, left kl = false) → wpList Tryz.prog ops Q rest (act.put o.dst (.tuple #[.bool false])) w)
    (hMore : ∀ (x : Nat) (w' : World) (cnt' : Nat), x < n → S x = true → left (key7 x) = true → w'.ranges Tryz.prog 3 sprElem b r N D (less7 left x) cnt' → cnt' < cnt → w.grownBy w' (some r) → w'.heap.size = w.heap.size →
      (Instr.entry (.pointer (some ⟨r, 0, none⟩))).run Tryz.prog w' = .ok (.tuple #[.int .i64 x, .agg #[.int .i64 (u x), .int .i64 (m x), .int .i64 (e x)]]) w' →
      wpList Tryz.prog ops Q rest (act.put o.dst (.tuple #[.bool true, .int .i64 x, .agg #[.int .i64 (u x), .int .i64 (m x), .int .i64 (e x)]])) w') :
    wpList Tryz.prog ops Q (o :: rest) act w := by
  refine wpList_next_ranges w hg it hop 3 keys7 sprElem (Value.int .i64) (fun c : Int × Int × Int => .agg #[.int .i64 c.1, .int .i64 c.2.1, .int .i64 c.2.2]) (fun key kl hkey => by obtain ⟨x, rfl, _⟩ := Maps.keyOf_int_inv Tryz.underlying3 hkey; exact ⟨x, rfl⟩) (fun v y hv => by obtain ⟨p, q, t, rfl, _⟩ := sprElem_inv hv; exact ⟨(p, q, t), rfl⟩)
    b r N D left cnt hit h (fun _ h => hDone h) (fun x c kl y w' cnt' hkey hlk hv hat hrg hlt hgr hsz hen => ?_)
  obtain ⟨x', ex, rfl, _⟩ := Maps.keyOf_int_inv Tryz.underlying3 hkey
  cases ex
  obtain ⟨p, q, t, ec, rfl⟩ := sprElem_inv hv
  obtain ⟨c1, c2, c3⟩ := c
  simp at ec
  obtain ⟨rfl, rfl, rfl⟩ := ec
  obtain ⟨i, hi, hS, hk⟩ := hH.1 _ (has_true_of_atKey hat)
  unfold key7 at hk
  simp at hk
  subst hk
  obtain ⟨rfl, rfl, rfl⟩ := sdat_inj ((hat .nil).symm.trans ((hH.2 i hi hS).2 .nil))
  exact hMore i w' cnt' hi hS hlk hrg hlt hgr hsz hen

set_option maxHeartbeats 1000000 in
set_option maxRecDepth 100000 in
theorem yielding_any (n : Nat) (u m e : Nat → Int) (v : Value) (w : World) (h : Sprs w v n u m e) (hS : fitS n u m e) :
    Calls Tryz.prog 62 #[v] w fun r w' => r = .returned (.map (some w.heap.size)) ∧ MapS w' w.heap.size n u m e (fun i => decide (0 < slk u (lo7 u m e) i)) ∧ Below w.heap.size w w' := by
  have hmm := @run_makeMap Tryz.prog
  obtain ⟨ad, cap, rfl, h1, h2, h0, h3⟩ := h
  have hn := hS.1
  go_enter Tryz.func62, Tryz.ntmps62
  go_wp2_with fail
  go_loopw [9] (fun i wr => ∃ (j : Nat) (D : DataW Unit), j ≤ n ∧ i = .int .i64 j ∧ wr.ownsMap Tryz.prog 3 sprElem w.heap.size j D ∧ Hold D j u m e (fun i => decide (0 < slk u (lo7 u m e) i)) ∧ Below w.heap.size w wr) (fun i _ => ((n : Int) - intOf i).toNat)
  case atStart => exact ⟨0, .map [], by omega, rfl, World.ownsMap_made _ _ _ _, hold_none _ _ _ _, (Below.refl _ _).alloc (Nat.le_refl _) _⟩
  case round =>
    obtain ⟨j, D, hj, rfl, hown, hH, hbw⟩ := hrel
    by_cases hlt : (j : Int) < n
    · obtain ⟨bk, o, rfl, h4⟩ := h3 (by omega)
      obtain ⟨k0, k1, k2⟩ := h4 j (by omega)
      have HS := hS.2 j (by omega)
      clear h4 h3
      have e0 := cell_later hbw k0
      have e1 := cell_later hbw k1
      have e2 := cell_later hbw k2
      have sb := World.block_lt_of_cell? _ _ k0
      clear k0 k1 k2
      have sw := hbw.size
      have HU : Hid (slk u (lo7 u m e) j = u j - lea (u j) (m j) (e j)) := rfl
      have HM : Hid (Hold D j u m e (fun i => decide (0 < slk u (lo7 u m e) i))) := hH
      have HK : Hid (0 < u j - lea (u j) (m j) (e j) → Hold (D.put (key7 j) (sdat (u j) (m j) (e j))) (j + 1) u m e (fun i => decide (0 < slk u (lo7 u m e) i))) := fun hp => hH.put hown.isMap (decide_eq_true hp)
      have HN : Hid (¬ 0 < u j - lea (u j) (m j) (e j) → Hold D (j + 1) u m e (fun i => decide (0 < slk u (lo7 u m e) i))) := fun hp => hH.skip (decide_eq_false hp)
      have b0 : Hid (0 ≤ u j - lea (u j) (m j) (e j) ∧ u j - lea (u j) (m j) (e j) ≤ 1048576) := by
        show _ ∧ _
        unfold lea; split <;> omega
      clear hH HU HM
      have HDD : Hid (0 < u j - lea (u j) (m j) (e j) ∨ ¬ 0 < u j - lea (u j) (m j) (e j)) := Classical.em _
      generalize u j = uj at *
      generalize m j = mj at *
      generalize e j = ej at *
      clear HS hS
      go_wp2_with fail
      have hbox : Below w.heap.size w (wr.alloc (.cells #[.int .i64 uj, .int .i64 mj, .int .i64 ej] 47)) := hbw.alloc sw _
      have hown1 := hown.alloc (.cells #[.int .i64 uj, .int .i64 mj, .int .i64 ej] 47)
      have hT := Thr.new wr uj mj ej 47
      refine (slack7_any _ _ _ _ b0.out.1 b0.out.2).mono ?_
      rintro r w2 ⟨rfl, hb2⟩
      have hown2 := hown1.kept (grown_of hb2) (by simp)
      have hb : Below w.heap.size w w2 := hbox.trans (hb2.mono hbox.size)
      obtain ⟨t0, t1, t2⟩ := hT.later hb2
      clear hb2 hbox hown1 hown hT
      rcases HDD.out with hp | hp
      · have HP : Hid (0 < uj - lea uj mj ej) := hp
        obtain ⟨q, hq⟩ : ∃ q, uj - lea uj mj ej = q := ⟨_, rfl⟩
        rw [hq] at hp ⊢
        clear hq b0
        go_wp2_with (first
          | (at_mapUpdate; refine wpList_mapUpdate_own _ rfl _ _ _ 88 rfl 3 47 keys7 Tryz.underlying88 _ w.heap.size j _ rfl hown2 (by unfold maxLen; omega) _ _ _ rfl rfl (keyOf_int_mk Tryz.underlying3 (key7_wf (by omega))) _ [] (sprElem_mk _ _ _) ?_; intro w3 hown3 hgrow3)
          | go_in)
        have hb3 := hb.grown hgrow3 hb.size (fun k hk => by cases hk; exact Nat.le_refl _)
        clear hgrow3 hown2
        go_wp2_with fail
        go_roundw
        case rel => exact ⟨j + 1, _, by omega, by go_num, hown3, HK.out HP.out, hb3⟩
        case measure => simp [intOf]; omega
      · have HP : Hid (¬ 0 < uj - lea uj mj ej) := by show ¬ _; omega
        obtain ⟨q, hq⟩ : ∃ q, uj - lea uj mj ej = q := ⟨_, rfl⟩
        rw [hq] at hp ⊢
        clear hq b0
        go_wp2_with fail
        go_roundw
        case rel => exact ⟨j + 1, D, by omega, by go_num, hown2.mono (by omega), HN.out HP.out, hb⟩
        case measure => simp [intOf]; omega
    · have hjk : j = n := by omega
      subst hjk
      go_wp2_with fail
      go_ret
      exact ⟨rfl, ⟨D, hown, hH⟩, hbw⟩

/-- What those give, by g, of S, that are no longer to come. -/
def gone7 (S : Nat → Bool) (left : Lit → Bool) (g : Nat → Int) (i : Nat) : Int := if S i && !left (key7 i) then g i else 0
theorem gone7_step {n x : Nat} {S : Nat → Bool} {left : Lit → Bool} {g : Nat → Int} (hx : x < n) (hS : S x = true) (hl : left (key7 x) = true) : sm n (gone7 S (less7 left x) g) = sm n (gone7 S left g) + g x := by
  rw [sm_turn (g := gone7 S left g) hx (fun i _ hne => by unfold gone7; rw [less7_other left hne])]
  have e1 : gone7 S (less7 left x) g x = g x := by unfold gone7; rw [less7_same, hS]; rfl
  have e2 : gone7 S left g x = 0 := by unfold gone7; rw [hl, hS]; rfl
  rw [e1, e2]; omega
theorem gone7_end {n : Nat} {S : Nat → Bool} {left : Lit → Bool} {g : Nat → Int} (hl : ∀ kl, left kl = false) : sm n (gone7 S left g) = sm n (sel S g) :=
  sm_congr (fun i _ => by unfold gone7 sel; rw [hl]; cases S i <;> rfl)
theorem gone7_start {n : Nat} {D : DataW Unit} {u m e : Nat → Int} {S : Nat → Bool} (h : Hold D n u m e S) (g : Nat → Int) : sm n (gone7 S (Maps.has D) g) = 0 := by
  rw [← sm_zero n]
  refine sm_congr (fun i hi => ?_)
  unfold gone7
  cases c : S i
  · rfl
  · rw [(h.2 i hi c).1]; rfl
theorem gone7_bd {n : Nat} {S : Nat → Bool} {left : Lit → Bool} {g : Nat → Int} {k : Int} (hn : n ≤ 4) (hk : 0 ≤ k) (h : ∀ i, i < n → 0 ≤ g i ∧ g i ≤ k) : 0 ≤ sm n (gone7 S left g) ∧ sm n (gone7 S left g) ≤ 4 * k := by
  constructor
  · exact sm_nonneg (fun i hi => by have := h i hi; unfold gone7; split <;> omega)
  · have h1 := sm_le (n := n) (f := gone7 S left g) (g := fun _ => k) (fun i hi => by have := h i hi; unfold gone7; split <;> omega)
    rw [sm_const] at h1
    have : (n : Int) * k ≤ 4 * k := Int.mul_le_mul_of_nonneg_right (by omega) hk
    omega

set_option maxHeartbeats 1000000 in
set_option maxRecDepth 100000 in
theorem pull_any (n b : Nat) (u m e : Nat → Int) (S : Nat → Bool) (w : World) (h : MapS w b n u m e S) (hS : fitS n u m e) :
    Calls Tryz.prog 64 #[.map (some b)] w fun r w' => r = .returned (.int .i64 (sm n (sel S e))) ∧ Below w.heap.size w w' := by
  obtain ⟨D, hown, hH⟩ := h
  have HH : Hid (Hold D n u m e S) := hH
  have HB : Hid (∀ left : Lit → Bool, 0 ≤ sm n (gone7 S left e) ∧ sm n (gone7 S left e) ≤ 32) := fun left => gone7_bd hS.1 (by omega) (fun i hi => ⟨(hS.2 i hi).2.2.2.1, (hS.2 i hi).2.2.2.2⟩)
  have HZ : Hid (sm n (gone7 S (Maps.has D) e) = 0) := gone7_start hH e
  clear hH
  go_enter Tryz.func64, Tryz.ntmps64
  go_wp2_with (first
    | (at_range; refine wpList_range_own _ rfl _ 88 rfl 3 47 keys7 Tryz.underlying88 _ b n _ rfl hown ?_; intro w0 hrg0 hg0 hs0)
    | go_in)
  have hb0 : Below w.heap.size w w0 := (Below.refl _ _).grown hg0 (Nat.le_refl _) (fun k hk => by cases hk)
  clear hg0
  go_frame
  go_loopw [3] (fun s wr => ∃ (left : Lit → Bool) (cnt : Nat) (z : Int), s = .int .i64 z ∧ 0 ≤ z ∧ z ≤ 32 ∧ Hid (z = sm n (gone7 S left e)) ∧ wr.ranges Tryz.prog 3 sprElem b w.heap.size n D left cnt ∧ Below w.heap.size w wr)
    (fun _ wr => wr.rangeLeft b w.heap.size)
  case atStart => exact ⟨_, _, 0, rfl, by omega, by omega, HZ.out.symm, hrg0, hb0⟩
  case round =>
    obtain ⟨left, cnt, z, rfl, z0, z1, HV, hrg, hbw⟩ := hrel
    go_wp2_with (first
      | (at_next; refine next_spr rfl _ rfl b w.heap.size n n _ _ _ u m e S rfl hrg HH.out ?_ ?_)
      | go_in)
    · intro hl0
      have HE : Hid (z = sm n (sel S e)) := by show _ = _; rw [← gone7_end hl0]; exact HV.out
      clear hl0
      go_wp2
      go_ret
      exact ⟨ret_i HE.out, hbw⟩
    · intro x w1 cnt1 hx hSx hlx hrg1 hlt hg1 hs1 hen
      have HE : Hid (z + e x = sm n (gone7 S (less7 left x) e)) := by show _ = _; rw [gone7_step hx hSx hlx, HV.out]
      have hb1 : Below w.heap.size w w1 := hbw.grown hg1 hbw.size (fun k hk => by cases hk; exact Nat.le_refl _)
      have hbd := HB.out (less7 left x)
      rw [← HE.out] at hbd
      have hs3 := hb1.size
      clear hg1 hSx hlx hx
      generalize e x = ex at *
      generalize u x = ux at *
      generalize m x = mx at *
      go_wp2_with fail
      go_roundw
      case rel => exact ⟨_, cnt1, z + ex, by go_num, hbd.1, hbd.2, HE.out, hrg1.alloc _, hb1.alloc hs3 _⟩
      case measure => rw [(hrg1.alloc _).left_eq, hrg.left_eq]; exact hlt

/-- Who is left of S: who is still to come, or is not struck. -/
def stay7 (S T : Nat → Bool) (left : Lit → Bool) (i : Nat) : Bool := S i && (left (key7 i) || !T i)
def hit7 (S T : Nat → Bool) (i : Nat) : Bool := S i && T i

set_option maxHeartbeats 2000000 in
set_option maxRecDepth 100000 in
theorem settle_any (n b : Nat) (u m e : Nat → Int) (S : Nat → Bool) (x y : Int) (w : World) (h : MapS w b n u m e S) (hS : fitS n u m e) (hE : ∀ i, i < n → S i = true → 1 ≤ e i) (a0 : 0 ≤ x) (a1 : x ≤ 4194304) (b1 : 1 ≤ y) (b32 : y ≤ 32) :
    Calls Tryz.prog 65 #[.map (some b), .agg #[.int .i64 x, .int .i64 y]] w fun r w' => r = .returned (.int .i64 (sm n (sel (fun i => S i && atlB (u i) (m i) (e i) x y) (slk u (lo7 u m e))))) ∧ MapS w' b n u m e (fun i => S i && !atlB (u i) (m i) (e i) x y) ∧ w.grownBy w' (some b) := by
  obtain ⟨T, hT⟩ : ∃ T : Nat → Bool, T = fun i => atlB (u i) (m i) (e i) x y := ⟨_, rfl⟩
  have HT : Hid (∀ i, atlB (u i) (m i) (e i) x y = T i) := fun i => by rw [hT]
  have e1 : (fun i => S i && atlB (u i) (m i) (e i) x y) = hit7 S T := funext fun i => by rw [HT.out]; rfl
  have e2 : (fun i => S i && !atlB (u i) (m i) (e i) x y) = fun i => S i && !T i := funext fun i => by rw [HT.out]
  rw [e1, e2]
  clear e1 e2 hT
  obtain ⟨D, hown, hH⟩ := h
  have hbl := hown.lt
  have hn := hS.1
  have HB : Hid (∀ left : Lit → Bool, 0 ≤ sm n (gone7 (hit7 S T) left (slk u (lo7 u m e))) ∧ sm n (gone7 (hit7 S T) left (slk u (lo7 u m e))) ≤ 4 * 1048576) := fun left => gone7_bd hS.1 (by omega) (fun i hi => by have := hS.sp.low i hi; have := hS.sp.top i hi; have := hS.sp.unit i hi; unfold slk; omega)
  have HZ : Hid (sm n (gone7 (hit7 S T) (Maps.has D) (slk u (lo7 u m e))) = 0) := by
    show _ = _
    rw [← sm_zero n]
    refine sm_congr (fun i hi => ?_)
    unfold gone7 hit7
    cases c : S i
    · rfl
    · rw [(hH.2 i hi c).1]; simp
  have HH : Hid (Hold D n u m e (stay7 S T (Maps.has D))) := hH.congr (fun i hi => by
    unfold stay7
    cases c : S i
    · rfl
    · rw [(hH.2 i hi c).1]; rfl)
  have HF : Hid (∀ i, i < n → S i = true → (0 ≤ u i - lea (u i) (m i) (e i) ∧ u i - lea (u i) (m i) (e i) ≤ 1048576) ∧ 1 ≤ e i ∧ e i ≤ 8) := fun i hi hs => by
    have := hS.sp.low i hi; have := hS.sp.top i hi; have := hS.sp.unit i hi
    have := hS.sp.e8 i hi; have := hE i hi hs
    unfold lo7 at *
    omega
  clear hH hE hS
  go_enter Tryz.func65, Tryz.ntmps65
  go_wp2_with fail
  refine (atleast_at x y _).mono ?_
  rintro r w1 ⟨rfl, hw1⟩
  have hg1 : w.grownBy w1 (some b) := by
    rw [hw1]
    exact (World.grownBy_alloc w _ _).andThen (World.grownBy_alloc _ _ none) (fun j hj => by cases hj)
  have hD1 : Duo w1 (w.heap.size + 1) x y := by rw [hw1]; simpa using Duo.new (w.alloc (.cells #[.int .i64 x, .int .i64 y] 69)) x y 69
  have hsz1 : w.heap.size + 1 < w1.heap.size := by rw [hw1]; simp
  have hown1 : w1.ownsMap Tryz.prog 3 sprElem b n D := by rw [hw1]; exact (hown.alloc _).alloc _
  clear hw1 hown
  simp only [World.size_alloc]
  go_wp2_with (first
    | (at_range; refine wpList_range_own _ rfl _ 88 rfl 3 47 keys7 Tryz.underlying88 _ b n _ rfl hown1 ?_; intro w0 hrg0 hg0 hs0)
    | go_in)
  have hg0' : w.grownBy w0 (some b) := hg1.andThen hg0 (fun j hj => by cases hj)
  have hD0 := hD1.kept hg0 (by simp)
  clear hg0 hown1 hD1 hg1
  go_frame
  go_loopw [5] (fun s wr => ∃ (left : Lit → Bool) (cnt : Nat) (z : Int) (D : DataW Unit), s = .int .i64 z ∧ 0 ≤ z ∧ z ≤ 4194304 ∧ Hid (z = sm n (gone7 (hit7 S T) left (slk u (lo7 u m e)))) ∧ Hid (Hold D n u m e (stay7 S T left)) ∧ wr.ranges Tryz.prog 3 sprElem b w1.heap.size n D left cnt ∧ Duo wr (w.heap.size + 1) x y ∧ w.grownBy wr (some b))
    (fun _ wr => wr.rangeLeft b w1.heap.size)
  case atStart => exact ⟨_, _, 0, D, rfl, by omega, by omega, HZ.out.symm, HH.out, hrg0, hD0, hg0'⟩
  case round =>
    clear hg0' hD0 hrg0 HH
    obtain ⟨left, cnt, z, D, rfl, z0, z1, HV, HH, hrg, hD, hgw⟩ := hrel
    go_wp2_with (first
      | (at_next; refine next_spr rfl _ rfl b w1.heap.size n n _ _ _ u m e (stay7 S T left) rfl hrg HH.out ?_ ?_)
      | go_in)
    · intro hl0
      have HE : Hid (z = sm n (sel (hit7 S T) (slk u (lo7 u m e)))) := by show _ = _; rw [← gone7_end hl0]; exact HV.out
      have HM : Hid (Hold D n u m e (fun i => S i && !T i)) := HH.out.congr (fun i _ => by unfold stay7; rw [hl0]; rfl)
      clear hl0
      go_wp2
      go_ret
      exact ⟨ret_i HE.out, ⟨D, hrg.owns, HM.out⟩, hgw⟩
    · intro k w2 cnt2 hk hSk hlk hrg2 hlt hg2 hs2 hen
      clear hs2
      have hgw2 : w.grownBy w2 (some b) := hgw.andThen hg2 (fun j hj => by cases hj; left; omega)
      have hD2 := hD.kept hg2 (by simp; omega)
      have hSk' : S k = true := by unfold stay7 at hSk; cases c : S k <;> simp [c] at hSk ⊢
      obtain ⟨⟨f0, f1⟩, f2, f3⟩ := HF.out k hk hSk'
      have hbd := HB.out (less7 left k)
      have hsl : slk u (lo7 u m e) k = u k - lea (u k) (m k) (e k) := rfl
      cases hTk : T k
      · have HE : Hid (z = sm n (gone7 (hit7 S T) (less7 left k) (slk u (lo7 u m e)))) := by
          show _ = _
          rw [HV.out]
          refine sm_congr (fun i _ => ?_)
          by_cases c : i = k
          · subst c; unfold gone7 hit7; rw [hTk]; simp
          · unfold gone7; rw [less7_other left c]
        have HM : Hid (Hold D n u m e (stay7 S T (less7 left k))) := HH.out.congr (fun i _ => by
          by_cases c : i = k
          · subst c; unfold stay7; rw [hTk]; simp
          · unfold stay7; rw [less7_other left c])
        have HQ : Hid (atlB (u k) (m k) (e k) x y = false) := (HT.out k).trans hTk
        clear hSk hSk' hlk hbd hsl hTk HV HH hk
        generalize e k = ek at *
        generalize u k = uk at *
        generalize m k = mk at *
        go_wp2_with fail
        refine (atleast_any uk mk ek x y _ _ f0 f1 f2 f3 a0 a1 b1 b32 (hD2.kept (World.grownBy_alloc _ _ none) (by simp))).mono ?_
        rintro r w3 ⟨rfl, hb3⟩
        rw [HQ.out]
        have hrg3 := (hrg2.alloc (.cells #[.int .i64 uk, .int .i64 mk, .int .i64 ek] 47)).kept (grown_of hb3) (by simp) (by simp)
        have hD3 := (hD2.kept (World.grownBy_alloc _ (.cells #[.int .i64 uk, .int .i64 mk, .int .i64 ek] 47) none) (by simp)).later hb3
        have hgw3 := (hgw2.andThen (World.grownBy_alloc _ (.cells #[.int .i64 uk, .int .i64 mk, .int .i64 ek] 47) none) (fun j hj => by cases hj)).andThen (grown_of hb3) (fun j hj => by cases hj)
        clear hb3 hrg2 hD2 hgw2 hgw hD
        go_wp2_with fail
        go_roundw
        case rel => exact ⟨_, cnt2, z, D, rfl, z0, z1, HE.out, HM.out, hrg3, hD3, hgw3⟩
        case measure => rw [hrg3.left_eq, hrg.left_eq]; exact hlt
      · have HE : Hid (z + (u k - lea (u k) (m k) (e k)) = sm n (gone7 (hit7 S T) (less7 left k) (slk u (lo7 u m e)))) := by
          show _ = _
          rw [gone7_step hk (by unfold hit7; rw [hSk', hTk]; rfl) hlk, ← HV.out, hsl]
        have HM : Hid (Hold (D.del (key7 k)) n u m e (stay7 S T (less7 left k))) := HH.out.del (fun i _ c => by unfold stay7; rw [less7_other left c]) (by unfold stay7; rw [less7_same, hTk]; simp)
        have HQ : Hid (atlB (u k) (m k) (e k) x y = true) := (HT.out k).trans hTk
        rw [← HE.out] at hbd
        have hkn : k ≤ 1000 := by omega
        clear hSk hSk' hlk hsl hTk HV HH hk
        obtain ⟨q, hq⟩ : ∃ q, u k - lea (u k) (m k) (e k) = q := ⟨_, rfl⟩
        have HL : Hid (u k - lea (u k) (m k) (e k) = q) := hq
        rw [hq] at hbd
        have HE2 : Hid (z + q = sm n (gone7 (hit7 S T) (less7 left k) (slk u (lo7 u m e)))) := by show _ = _; rw [← hq]; exact HE.out
        have HF2 : Hid (0 ≤ u k - lea (u k) (m k) (e k) ∧ u k - lea (u k) (m k) (e k) ≤ 1048576) := ⟨f0, f1⟩
        clear hq HE f0 f1
        generalize e k = ek at *
        generalize u k = uk at *
        generalize m k = mk at *
        go_wp2_with fail
        refine (atleast_any uk mk ek x y _ _ HF2.out.1 HF2.out.2 f2 f3 a0 a1 b1 b32 (hD2.kept (World.grownBy_alloc _ _ none) (by simp))).mono ?_
        rintro r w3 ⟨rfl, hb3⟩
        rw [HQ.out]
        have hrg3 := (hrg2.alloc (.cells #[.int .i64 uk, .int .i64 mk, .int .i64 ek] 47)).kept (grown_of hb3) (by simp) (by simp)
        have hD3 := (hD2.kept (World.grownBy_alloc _ (.cells #[.int .i64 uk, .int .i64 mk, .int .i64 ek] 47) none) (by simp)).later hb3
        have hgw3 := (hgw2.andThen (World.grownBy_alloc _ (.cells #[.int .i64 uk, .int .i64 mk, .int .i64 ek] 47) none) (fun j hj => by cases hj)).andThen (grown_of hb3) (fun j hj => by cases hj)
        obtain ⟨t0, t1, t2⟩ := (Thr.new w2 uk mk ek 47).later hb3
        clear hb3 hrg2 hD2 hgw2 hgw hD
        go_wp2_with fail
        refine (slack7_any uk mk ek _ HF2.out.1 HF2.out.2).mono ?_
        rintro r w4 ⟨rfl, hb4⟩
        rw [HL.out]
        have hrg4 := hrg3.kept (grown_of hb4) (by simp) (by simp)
        have hD4 := hD3.later hb4
        have hgw4 := hgw3.andThen (grown_of hb4) (fun j hj => by cases hj)
        clear hb4 hrg3 hD3 hgw3 t0 t1 t2
        go_wp2_with (first
          | (at_delete; refine wpList_delete_ranges _ rfl _ _ 88 3 rfl 47 keys7 Tryz.underlying88 _ b w1.heap.size n _ _ _ rfl hrg4 _ _ rfl (keyOf_int_mk Tryz.underlying3 (key7_wf hkn)) ?_; intro w5 cnt5 hrg5 hle hturn; go_frame)
          | go_in)
        have e5 := less7_twice left k
        unfold key7 at e5
        rw [e5] at hrg5
        have hD5 := hD4.kept hturn.grown (by simp; omega)
        have hgw5 := hgw4.andThen hturn.grown (fun j hj => by cases hj; right; rfl)
        clear hD4 hgw4 hrg4 hturn e5
        go_roundw
        case rel => exact ⟨_, cnt5, z + q, _, by go_num, hbd.1, by omega, HE2.out, HM.out, hrg5, hD5, hgw5⟩
        case measure => rw [hrg5.left_eq, hrg.left_eq]; omega
end Go.Proofs.YtmiakknagjncpaaGreatDoor
