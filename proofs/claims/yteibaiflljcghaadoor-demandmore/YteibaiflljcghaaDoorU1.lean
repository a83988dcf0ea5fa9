/- Lists of integers that are read, the table of limits, and walks of Sum and Fits of package units, and of the document's own. -/
import Derived.Test.YteibaiflljcghaaDoorV3
import Derived.Test.YteibaiflljcghaaDoorW1
import Derived.Test.YteibaiflljcghaaDoorR8
import Derived.Test.YteibaiflljcghaaDoorM1
import Derived.Deep.RegionWith
import Derived.Deep.RegionHeld3
import Derived.Test.YteibaiflljcghaaDoorQ2
import Derived.Test.YteibaiflljcghaaDoorE1
namespace Go.Proofs.YteibaiflljcghaaDoor
open Go.RowKit

theorem Nums.later {w w' : World} {v : Value} {xs : List Int} (h : Nums w v xs) (hb : Below w.heap.size w w') : Nums w' v xs := by
  obtain ⟨a, cap, rfl, h1, h2, h3⟩ := h
  refine ⟨a, cap, rfl, h1, h2, fun hx => ?_⟩
  obtain ⟨b, o, rfl, h4⟩ := h3 hx
  exact ⟨b, o, rfl, fun i hi => cell_later hb (h4 i hi)⟩
/-- What the limits are: the table's three cells. -/
def Lim (w : World) : Prop := w.cell? ⟨0, 0, none⟩ = some (.int .i64 1099511627776) ∧ w.cell? ⟨0, 1, none⟩ = some (.int .i64 1000) ∧ w.cell? ⟨0, 2, none⟩ = some (.int .i64 983040)
theorem Lim.later {w w' : World} (h : Lim w) (hb : Below w.heap.size w w') : Lim w' := ⟨cell_later hb h.1, cell_later hb h.2.1, cell_later hb h.2.2⟩

/-- May a number of a list be? -/
def unB (x : Int) : Bool := wiB x 0 1099511627776
def sumB (ks : List Int) : Bool := decide (ks.length ≤ 1000) && ks.all unB
def sumV (ks : List Int) : Int := bif sumB ks then ks.sum else 0
def fitB6 (ks : List Int) : Bool := sumB ks && decide (sumV ks ≤ 983040)
theorem sum_no {ks : List Int} (h : sumB ks = false) : sumV ks = 0 := by unfold sumV; rw [h]; rfl
theorem sum_yes {ks : List Int} (h : sumB ks = true) : sumV ks = ks.sum := by unfold sumV; rw [h]; rfl
theorem sumB_long {ks : List Int} (h : ¬ ks.length ≤ 1000) : sumB ks = false := by unfold sumB; rw [decide_eq_false h]; rfl
theorem sumB_bad {ks : List Int} {j : Nat} (hj : j < ks.length) (h : unB (ks.getD j 0) = false) : sumB ks = false := by
  have : ks.all unB = false := by
    rw [List.all_eq_false]
    refine ⟨ks[j], List.getElem_mem hj, ?_⟩
    have e : ks.getD j 0 = ks[j] := by simp [List.getD, hj]
    rw [← e, h]; simp
  unfold sumB; rw [this, Bool.and_false]
theorem sumB_good {ks : List Int} (h : ks.length ≤ 1000) (h' : (ks.take ks.length).all unB = true) : sumB ks = true := by
  rw [List.take_length] at h'
  unfold sumB; rw [decide_eq_true h, h']; rfl
theorem take_all {ks : List Int} {j : Nat} (hj : j < ks.length) (h : (ks.take j).all unB = true) (h' : unB (ks.getD j 0) = true) : (ks.take (j + 1)).all unB = true := by
  have e : ks.getD j 0 = ks[j] := by simp [List.getD, hj]
  rw [e] at h'
  rw [List.take_add_one, List.getElem?_eq_getElem hj, List.all_append, h]
  simp [h']
theorem take_sum {ks : List Int} {j : Nat} (hj : j < ks.length) : (ks.take (j + 1)).sum = (ks.take j).sum + ks.getD j 0 := by
  have e : ks.getD j 0 = ks[j] := by simp [List.getD, hj]
  rw [List.take_add_one, List.getElem?_eq_getElem hj, List.sum_append, e]
  simp
theorem within6_any (n a b : Int) (w : World) :
    Calls Tryd.prog 41 #[.int .i64 n, .int .i64 a, .int .i64 b] w fun e w' => e = .returned (.bool (wiB n a b)) ∧ w' = w := by
  by_cases c0 : a ≤ n
  · have H : Hid (wiB n a b = decide (n ≤ b)) := by show _ = _; unfold wiB; simp [c0]
    go_enter Tryd.func41, Tryd.ntmps41
    go_wp2
    go_ret
    exact ⟨ret_b H.out.symm, rfl⟩
  · have H : Hid (wiB n a b = false) := by show _ = _; unfold wiB; simp [c0]
    go_enter Tryd.func41, Tryd.ntmps41
    go_wp2
    go_ret
    exact ⟨ret_b H.out.symm, rfl⟩

set_option maxHeartbeats 1000000 in
set_option maxRecDepth 100000 in
theorem sum_any (ks : List Int) (v : Value) (w : World) (h : Nums w v ks) (hL : Lim w) :
    Calls Tryd.prog 43 #[v] w fun e w' => e = .returned (.tuple #[.int .i64 (sumV ks), .bool (sumB ks)]) ∧ w' = w := by
  obtain ⟨a, cap, rfl, h1, h2, h3⟩ := h
  obtain ⟨l0, l1, l2⟩ := hL
  by_cases hl : (ks.length : Int) > 1000
  · have H : Hid (sumB ks = false) := sumB_long (by omega)
    go_enter Tryd.func43, Tryd.ntmps43
    go_wp2
    go_ret2
    exact ⟨ret_ib (sum_no H.out).symm H.out.symm, rfl⟩
  · go_enter Tryd.func43, Tryd.ntmps43
    go_wp2_with fail
    go_loop [4, 14] (fun s i => ∃ (j : Nat) (z : Int), j ≤ ks.length ∧ i = .int .i64 j ∧ s = .int .i64 z ∧ 0 ≤ z ∧ z ≤ j * 1099511627776 ∧ Hid (z = (ks.take j).sum ∧ (ks.take j).all unB = true)) (fun _ i => ((ks.length : Int) - intOf i).toNat)
    case atStart => exact ⟨0, 0, by omega, rfl, rfl, by omega, by omega, by simp, by simp⟩
    case round =>
      obtain ⟨j, z, hj, rfl, rfl, z0, z1, HZ⟩ := hrel
      by_cases hlt : (j : Int) < ks.length
      · obtain ⟨b, o, rfl, h4⟩ := h3 (by intro e; rw [e, List.length_nil] at hlt; omega)
        have hc := h4 j (by omega)
        clear h4 h3
        obtain ⟨x, hx⟩ : ∃ x, ks.getD j 0 = x := ⟨_, rfl⟩
        have HX : Hid (ks.getD j 0 = x) := hx
        rw [hx] at hc
        clear hx
        cases ho : unB x
        · have H : Hid (sumB ks = false) := sumB_bad (j := j) (by omega) (by rw [HX.out]; exact ho)
          have HO : Hid (wiB x 0 1099511627776 = false) := ho
          clear ho
          go_wp2_with fail
          refine (within6_any x 0 1099511627776 _).mono ?_
          rintro e w1 ⟨rfl, rfl⟩
          rw [HO.out]
          go_wp2
          go_ret2
          exact ⟨ret_ib (sum_no H.out).symm H.out.symm, rfl⟩
        · have hx := of_decide_eq_true (show decide (0 ≤ x ∧ x ≤ 1099511627776) = true from ho)
          have HA : Hid ((ks.take (j + 1)).all unB = true) := take_all (j := j) (by omega) HZ.out.2 (by rw [HX.out]; exact ho)
          have HS : Hid (z + x = (ks.take (j + 1)).sum) := by show _ = _; rw [take_sum (by omega), HX.out, ← HZ.out.1]
          have HO : Hid (wiB x 0 1099511627776 = true) := ho
          clear ho
          obtain ⟨hx0, hx1⟩ := hx
          go_wp2_with fail
          refine (within6_any x 0 1099511627776 _).mono ?_
          rintro e w1 ⟨rfl, rfl⟩
          rw [HO.out]
          go_wp2_with fail
          go_round
          case rel => exact ⟨j + 1, z + x, by omega, by go_num, by go_num, by omega, by omega, HS.out, HA.out⟩
          case measure => simp [intOf]; omega
      · obtain rfl : j = ks.length := by omega
        have H : Hid (sumB ks = true) := sumB_good (by omega) HZ.out.2
        have HS : Hid (z = sumV ks) := by show _ = _; rw [sum_yes H.out, HZ.out.1, List.take_length]
        go_wp2
        go_ret2
        exact ⟨ret_ib HS.out H.out.symm, rfl⟩
end Go.Proofs.YteibaiflljcghaaDoor
