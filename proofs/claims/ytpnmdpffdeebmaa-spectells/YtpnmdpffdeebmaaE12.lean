/- Walks of the document's own answers of chapter 5: are two lists of bytes the same? -/
import Derived.Test.YtpnmdpffdeebmaaE6
namespace Go.Proofs.Ytpnmdpffdeebmaa
open Go.RowKit

/-- Bytes are the same. -/
def sameB (xs ys : List Int) : Bool := decide (xs = ys)
theorem same_take {xs ys : List Int} {j : Nat} (hj : j < xs.length) (hj' : j < ys.length) (h : xs.take j = ys.take j) (e : xs.getD j 0 = ys.getD j 0) : xs.take (j + 1) = ys.take (j + 1) := by
  rw [List.take_add_one, List.take_add_one, h]
  simp only [List.getD, List.getElem?_eq_getElem hj, List.getElem?_eq_getElem hj', Option.getD_some] at e
  rw [List.getElem?_eq_getElem hj, List.getElem?_eq_getElem hj', e]
theorem getD_eq {xs ys : List Int} (h : xs = ys) (j : Nat) : xs.getD j 0 = ys.getD j 0 := by rw [h]

set_option maxHeartbeats 1000000 in
set_option maxRecDepth 100000 in
theorem bytes_any (xs ys : List Int) (u v : Value) (w : World) (h : Bys w u xs) (h' : Bys w v ys) (hx : xs.length ≤ 1000) :
    Calls Try.prog 17 #[u, v] w fun r w' => r = .returned (.bool (sameB xs ys)) ∧ Below w.heap.size w w' := by
  obtain ⟨a, cap, rfl, h1, h2, h3, h4, h5⟩ := id h
  obtain ⟨a', cap', rfl, h1', h2', h3', h4', h5'⟩ := id h'
  have HB : Hid (Bys w (.slice a xs.length cap) xs ∧ Bys w (.slice a' ys.length cap') ys) := ⟨h, h'⟩
  clear h h' h3 h3' h4 h4'
  by_cases hl : xs.length = ys.length
  · have HL : Hid (xs.length = ys.length) := hl
    have hl1 : ((xs.length : Int) == ys.length) = true := beq_iff_eq.2 (by omega)
    have hl2 : xs.length ≤ ys.length := by omega
    have hl3 : ys.length ≤ xs.length := by omega
    clear hl
    go_enter Try.func17, Try.ntmps17
    go_wp2_with fail
    go_loopw [5] (fun i wr => ∃ (j : Nat), j ≤ xs.length ∧ i = .int .i64 j ∧ Below w.heap.size w wr ∧ Hid (xs.take j = ys.take j)) (fun i _ => ((xs.length : Int) - intOf i).toNat)
    case atStart => exact ⟨0, by omega, rfl, Below.refl _ _, rfl⟩
    case round =>
      obtain ⟨j, hj, rfl, hbw, HT⟩ := hrel
      by_cases hlt : (j : Int) < xs.length
      · obtain ⟨b, o, rfl, h6⟩ := h5 (by intro e; rw [e, List.length_nil] at hlt; omega)
        obtain ⟨b', o', rfl, h6'⟩ := h5' (by intro e; rw [e, List.length_nil] at hl2; omega)
        have hc1 := cell_later hbw (h6 j (by omega))
        have hc2 := cell_later hbw (h6' j (by omega))
        clear h5 h5' h6 h6'
        by_cases he : xs.getD j 0 = ys.getD j 0
        · have HS : Hid (xs.take (j + 1) = ys.take (j + 1)) := same_take (by omega) (by omega) HT.out he
          rw [← he] at hc2
          clear he
          generalize xs.getD j 0 = q at *
          go_wp2_with fail
          go_region
          all_goals
            go_wp2_with fail
            go_roundw
            case rel => exact ⟨j + 1, by omega, by go_num, hbw.drew, HS⟩
            case measure => simp [intOf]; omega
        · have HS : Hid (sameB xs ys = false) := decide_eq_false fun e => he (getD_eq e j)
          have he' : (xs.getD j 0 == ys.getD j 0) = false := by simpa using he
          clear he
          generalize xs.getD j 0 = q at *
          generalize ys.getD j 0 = q' at *
          go_wp2_with fail
          go_region
          all_goals
            go_wp2_with fail
            go_ret
            exact ⟨ret_b HS.out.symm, hbw.drew⟩
      · have hjk : j = xs.length := by omega
        subst hjk
        have HS : Hid (sameB xs ys = true) := decide_eq_true (by
          have := HT.out
          rw [List.take_of_length_le (Nat.le_refl _), List.take_of_length_le (by omega)] at this; exact this)
        go_wp2_with fail
        go_ret
        exact ⟨ret_b HS.out.symm, hbw⟩
  · have HS : Hid (sameB xs ys = false) := decide_eq_false fun e => hl (by rw [e])
    have hl1 : ((xs.length : Int) == ys.length) = false := beq_eq_false_iff_ne.2 (by omega)
    have hl2 : (xs.length == ys.length) = false := by simpa using hl
    go_enter Try.func17, Try.ntmps17
    go_wp2_with fail
    go_ret
    exact ⟨ret_b HS.out.symm, Below.refl _ _⟩
end Go.Proofs.Ytpnmdpffdeebmaa
