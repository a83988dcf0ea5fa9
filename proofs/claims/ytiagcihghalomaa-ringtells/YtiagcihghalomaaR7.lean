/- Walks of package ring: List. -/
import Derived.Test.YtiagcihghalomaaR4
import Derived.Test.YtiagcihghalomaaQ4
namespace Go.Proofs.Ytiagcihghalomaa
open Go.RowKit

theorem outcomes_at (zs : List Bool) (w : World) :
    Calls Try.prog 27 #[.agg #[.int .i64 zs.length, .int .u64 (val zs)]] w fun e w' => e = .returned (tellV w.heap.size) ∧ w' = w.alloc (.cells #[.int .i64 zs.length, .int .u64 (val zs)] 43) := by
  go_enter Try.func27, Try.ntmps27
  go_wp2
  go_ret
  exact ⟨rfl, rfl⟩

theorem tell_at (zs : List Bool) (b i : Nat) (x : Int) (w : World) (hx : x = i) (hl : zs.length ≤ 60) (hi : i ≤ 9007199254740992)
    (c0 : w.cell? ⟨b, 0, none⟩ = some (.int .i64 zs.length)) (c1 : w.cell? ⟨b, 1, none⟩ = some (.int .u64 (val zs))) :
    Calls Try.prog 33 #[.int .i64 x, .pointer (some ⟨b, 0, none⟩)] w fun e w' => e = .returned (.bool (gd zs i)) ∧ w' = w := by
  subst hx; exact tell_any zs b i w hl hi c0 c1

theorem Try.info4 : (Try.prog.info? 4).map (fun i => (i.zero, i.size, i.bytes)) = some (some (.bool false), 1, 1) := by kernel_rfl

/-- A list of outcomes, as cells. -/
def bvs (xs : List Bool) : List Value := xs.map Value.bool

/-- The cells of a list of which the first j outcomes are written. -/
def cellsTo (zs : List Bool) (j : Nat) : List Value := (List.range zs.length).map fun t => Value.bool (decide (t < j) && gd zs (zs.length - 1 - t))

theorem cellsTo_zero (zs : List Bool) : List.replicate zs.length (Value.bool false) = cellsTo zs 0 := by
  apply List.ext_getElem
  · simp [cellsTo]
  · intro i h1 h2; simp [cellsTo]
theorem cellsTo_step (zs : List Bool) (j : Nat) : (cellsTo zs j).set j (.bool (gd zs (zs.length - 1 - j))) = cellsTo zs (j + 1) := by
  apply List.ext_getElem
  · simp [cellsTo]
  · intro i h1 h2
    simp only [cellsTo, List.getElem_set, List.getElem_map, List.getElem_range]
    by_cases e : j = i
    · subst e; simp
    · rw [if_neg e]
      have : decide (i < j) = decide (i < j + 1) := by
        by_cases c : i < j
        · simp [c]; omega
        · simp [c]; omega
      rw [this]
theorem cellsTo_at (zs : List Bool) (i : Nat) {j : Nat} (h : j < zs.length) : (cellsTo zs i)[j]? = some (.bool (decide (j < i) && gd zs (zs.length - 1 - j))) := by
  unfold cellsTo; rw [List.getElem?_map, List.getElem?_range h]; rfl
theorem cellsTo_end (zs : List Bool) : cellsTo zs zs.length = bvs zs.reverse := by
  apply List.ext_getElem
  · simp [cellsTo, bvs]
  · intro i h1 h2
    simp [cellsTo, bvs] at h1 h2 ⊢
    simp [h1, gd]
    rw [List.getElem?_eq_getElem (by omega)]; rfl

set_option maxHeartbeats 1000000 in
set_option maxRecDepth 100000 in
theorem list_any (N B : Int) (w : World) (b0 : 0 ≤ B) :
    Calls Try.prog 16 #[.agg #[.int .i64 N, .int .u64 B]] w fun e w' => ∃ v, e = .returned v ∧ w'.ownsRow w.heap.size 4 1 v (ringOf N B).length (bvs (ringOf N B).reverse) ∧ Below w.heap.size w w' := by
  obtain ⟨i0, hi, hz0, hz1, hz2⟩ := info_parts Try.info4
  go_enter Try.func16, Try.ntmps16
  go_wp2_with fail
  refine (viewOf_any _ _ _ b0).mono ?_
  rintro e w1 ⟨rfl, hb1⟩
  have hl := ringOf_len N B
  generalize hz : ringOf N B = zs at *
  have HZ : Hid (ringOf N B = zs) := hz
  clear hz
  have hv := val_bd hl
  have hb : Below w.heap.size w w1 := ((Below.refl _ _).alloc (by simp) _).trans (hb1.mono (by simp))
  clear hb1
  have s1 := hb.size
  unfold ringV
  go_wp2_with fail
  refine (outcomes_at zs _).mono ?_
  rintro e w2 ⟨rfl, rfl⟩
  unfold tellV
  have hend : Below w.heap.size w ((w1.alloc (.cells #[.int .i64 zs.length, .int .u64 (val zs)] 43)).alloc (.cells #[.int .i64 zs.length, .int .u64 (val zs)] 43)) := (hb.alloc s1 _).alloc (by simp; omega) _
  have d0 : ((w1.alloc (.cells #[.int .i64 zs.length, .int .u64 (val zs)] 43)).alloc (.cells #[.int .i64 zs.length, .int .u64 (val zs)] 43)).cell? ⟨w1.heap.size, 0, none⟩ = some (.int .i64 zs.length) := by simp
  have d1 : ((w1.alloc (.cells #[.int .i64 zs.length, .int .u64 (val zs)] 43)).alloc (.cells #[.int .i64 zs.length, .int .u64 (val zs)] 43)).cell? ⟨w1.heap.size + 1, 0, none⟩ = some (.int .i64 zs.length) := by simp
  have d2 : ((w1.alloc (.cells #[.int .i64 zs.length, .int .u64 (val zs)] 43)).alloc (.cells #[.int .i64 zs.length, .int .u64 (val zs)] 43)).cell? ⟨w1.heap.size + 1, 1, none⟩ = some (.int .u64 (val zs)) := by simp
  have d3 : w1.heap.size + 2 = ((w1.alloc (.cells #[.int .i64 zs.length, .int .u64 (val zs)] 43)).alloc (.cells #[.int .i64 zs.length, .int .u64 (val zs)] 43)).heap.size := by simp
  generalize (w1.alloc (.cells #[.int .i64 zs.length, .int .u64 (val zs)] 43)).alloc (.cells #[.int .i64 zs.length, .int .u64 (val zs)] 43) = w2 at *
  have s2 := hend.size
  go_wp2_with (first
    | (at_make; refine wpList_make_full _ rfl _ _ 25 rfl w.heap.size 4 i0 (.bool false) 1 Try.underlying25 hi hz0 hz1 .i64 .i64 zs.length zs.length zs.length rfl rfl rfl rfl (by rw [hz2]; omega) (by unfold maxLen; omega) s2 ?_; intro w3 hown hgrow))
  rw [show Value.cells (.bool false) = #[.bool false] from rfl, Nat.mul_one, toList_madeCells_one, cellsTo_zero] at hown
  have hb3 : Below w2.heap.size w2 w3 := (Below.refl _ _).grown hgrow (Nat.le_refl _) (by intro k hk; cases hk)
  clear hgrow
  go_wp2_with fail
  go_loopw [17] (fun i wr => ∃ (j : Nat), j ≤ zs.length ∧ i = .int .i64 j ∧ wr.ownsRow w.heap.size 4 1 (.slice (some ⟨w2.heap.size, 0, none⟩) zs.length zs.length) zs.length (cellsTo zs j) ∧ Below w2.heap.size w2 wr) (fun i _ => ((zs.length : Int) - intOf i).toNat)
  case atStart => exact ⟨0, by omega, rfl, hown, hb3⟩
  case round =>
    obtain ⟨j, hj, rfl, hown, hbw⟩ := hrel
    by_cases hlt : (j : Int) < zs.length
    · have e0 := cell_later hbw d0
      have e1 := cell_later hbw d1
      have e2 := cell_later hbw d2
      have hcj := (hown.cellAt j (by omega)).trans (cellsTo_at zs j (by omega))
      have hfj := hown.frozenAt j
      go_wp2_with fail
      refine (tell_at zs _ (zs.length - 1 - j) _ _ (by omega) hl (by omega) e1 e2).mono ?_
      rintro e w4 ⟨rfl, rfl⟩
      go_wp2_with fail
      go_roundw
      case rel =>
        have hst := hown.stored j (.bool (gd zs (zs.length - 1 - j)))
        rw [cellsTo_step] at hst
        exact ⟨j + 1, by omega, by go_num, hst.1, hbw.setCell (by simp) _⟩
      case measure => simp [intOf]; omega
    · have hjk : j = zs.length := by omega
      subst hjk
      rw [cellsTo_end] at hown
      go_wp2_with fail
      go_ret
      exact ⟨_, rfl, by rw [HZ.out]; exact hown, hend.trans (hbw.mono s2)⟩
end Go.Proofs.Ytiagcihghalomaa
