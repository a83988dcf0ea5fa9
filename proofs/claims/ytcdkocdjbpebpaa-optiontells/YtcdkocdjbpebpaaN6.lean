/- The library's sort: the heap sort, and what is turned round. -/
import Derived.Test.YtcdkocdjbpebpaaN5
namespace Go.Proofs.Ytcdkocdjbpebpaa
open Go.RowKit
open Go.Sort (SWO swp HoldsK putRowK PermIn SortedIn)

set_option maxHeartbeats 2000000 in
set_option maxRecDepth 100000 in
theorem heap14_any {Bs B o n c : Nat} {ty : Value} {w : World} {d : Array (Int × Int × Int)} (h : Srt Bs B o n c ty w d) (a b : Nat) (hab : a ≤ b) (hb : b ≤ n) :
    Calls Try.prog 67 #[.agg #[.func (.func 30) #[] #[.pointer (some ⟨Bs, 0, none⟩)], .func (.func 63) #[] #[.slice (some ⟨B, o, none⟩) n c, ty]], .int .i64 a, .int .i64 b] w fun e w' => e = .returned (.tuple #[]) ∧ Srt Bs B o n c ty w' (Go.Sort.heapSort ltO d a b) ∧ Kpt B w w' := by
  have hD := SrtD.new h
  have HK0 : Hid (Kpt B w (w.alloc (.cells #[.func (.func 30) #[] #[.pointer (some ⟨Bs, 0, none⟩)], .func (.func 63) #[] #[.slice (some ⟨B, o, none⟩) n c, ty]] 82))) := Kpt.of ((Below.refl _ _).alloc (Nat.le_refl _) _)
  have hsm := h.small
  clear h
  obtain ⟨m, hm⟩ : ∃ m : Nat, b - a = m := ⟨_, rfl⟩
  have hm' : (b : Int) - a = m := by omega
  have HM : Hid (b - a = m) := hm
  clear hm
  go_enter Try.func67, Try.ntmps67
  go_wp2_with fail
  generalize w.alloc (.cells #[.func (.func 30) #[] #[.pointer (some ⟨Bs, 0, none⟩)], .func (.func 63) #[] #[.slice (some ⟨B, o, none⟩) n c, ty]] 82) = W at *
  have hq : ((m : Int) - 1).tdiv 2 + 1 = (((m - 1) / 2 + 1 : Nat) : Int) := by
    rcases Nat.eq_zero_or_pos m with rfl | h0
    · decide
    · rw [Int.tdiv_eq_ediv_of_nonneg (by omega)]; omega
  have HQ : Hid (((m : Int) - 1).tdiv 2 + 1 = (((m - 1) / 2 + 1 : Nat) : Int)) := hq
  clear hq
  go_loopw [9] (fun vi wr => ∃ (k : Nat) (dk : Array (Int × Int × Int)), vi = .int .i64 ((k : Int) - 1) ∧ k ≤ m + 1 ∧ Hid (SrtD w.heap.size Bs B o n c ty wr dk ∧ Kpt B W wr ∧ Go.Sort.heapBuild ltO m a k dk = Go.Sort.heapBuild ltO m a ((m - 1) / 2 + 1) d)) (fun vi _ => (intOf vi + 1).toNat)
  case atStart => exact ⟨(m - 1) / 2 + 1, d, by have := HQ.out; congr 1; omega, by omega, hD, Kpt.refl _ _, rfl⟩
  case round =>
    obtain ⟨k, dk, rfl, hk, HR⟩ := hrel
    clear hD
    have f0 := HR.out.1.f0
    have f1 := HR.out.1.f1
    by_cases hk0 : k = 0
    · subst hk0
      have hz : (((0 : Nat) : Int) - 1) = -1 := by decide
      rw [hz]
      generalize wr = wo at *
      have HR2 : Hid (SrtD w.heap.size Bs B o n c ty wo dk ∧ Kpt B W wo ∧ dk = Go.Sort.heapBuild ltO m a ((m - 1) / 2 + 1) d) := ⟨HR.out.1, HR.out.2.1, HR.out.2.2⟩
      clear HR f0 f1
      go_wp2_with fail
      go_loopw [10] (fun vi wr => ∃ (k : Nat) (dx : Array (Int × Int × Int)), vi = .int .i64 ((k : Int) - 1) ∧ k ≤ m ∧ Hid (SrtD w.heap.size Bs B o n c ty wr dx ∧ Kpt B W wr ∧ Go.Sort.heapPop ltO a k dx = Go.Sort.heapPop ltO a m dk)) (fun vi _ => (intOf vi + 1).toNat)
      case atStart => exact ⟨m, dk, by first | rfl | (congr 1; omega), by omega, HR2.out.1, HR2.out.2.1, rfl⟩
      case round =>
        obtain ⟨k, dx, rfl, hk, HS⟩ := hrel
        have f0 := HS.out.1.f0
        have f1 := HS.out.1.f1
        by_cases hk0 : k = 0
        · subst hk0
          go_wp2
          go_end0
          exact ⟨rfl, by unfold Go.Sort.heapSort; rw [HM.out, ← HR2.out.2.2, ← HS.out.2.2]; exact HS.out.1.srt, HK0.out.trans HS.out.2.1⟩
        · obtain ⟨k, rfl⟩ : ∃ x, k = x + 1 := ⟨k - 1, by omega⟩
          have hv : (((k + 1 : Nat) : Int) - 1) = k := by omega
          simp only [hv]
          go_wp2_with fail
          obtain ⟨w3, hs, h3, k3⟩ := HS.out.1.swap a (a + k) a ((a : Int) + k) rfl (by omega) (by omega) (by omega)
          rw [hs, Oper.upon_value]
          have HT : Hid (SrtD w.heap.size Bs B o n c ty w3 (swp dx a (a + k)) ∧ Kpt B W w3) := ⟨h3, HS.out.2.1.trans k3⟩
          clear h3 k3 hs f0 f1
          have f0 := HT.out.1.f0
          have f1 := HT.out.1.f1
          go_wp2_with fail
          refine (sift14_any HT.out.1.srt 0 k a (by omega) (by omega)).mono ?_
          rintro e w4 ⟨rfl, h4, k4⟩
          have HU : Hid (SrtD w.heap.size Bs B o n c ty w4 (Go.Sort.siftDown ltO k a 0 (swp dx a (a + k))) ∧ Kpt B W w4 ∧ Go.Sort.heapPop ltO a k (Go.Sort.siftDown ltO k a 0 (swp dx a (a + k))) = Go.Sort.heapPop ltO a m dk) :=
            ⟨HT.out.1.kpt h4 k4, HT.out.2.trans k4, by rw [← HS.out.2.2, Go.Sort.heapPop]⟩
          clear h4 k4 f0 f1
          go_wp2
          go_roundw
          case rel => exact ⟨k, _, by first | rfl | (congr 1; omega), by omega, HU⟩
          case measure => simp [intOf]
    · obtain ⟨k, rfl⟩ : ∃ x, k = x + 1 := ⟨k - 1, by omega⟩
      have hv : (((k + 1 : Nat) : Int) - 1) = k := by omega
      simp only [hv]
      go_wp2_with fail
      refine (sift14_any HR.out.1.srt k m a (by omega) (by omega)).mono ?_
      rintro e w4 ⟨rfl, h4, k4⟩
      have HU : Hid (SrtD w.heap.size Bs B o n c ty w4 (Go.Sort.siftDown ltO m a k dk) ∧ Kpt B W w4 ∧ Go.Sort.heapBuild ltO m a k (Go.Sort.siftDown ltO m a k dk) = Go.Sort.heapBuild ltO m a ((m - 1) / 2 + 1) d) :=
        ⟨HR.out.1.kpt h4 k4, HR.out.2.1.trans k4, by rw [← HR.out.2.2, Go.Sort.heapBuild]⟩
      clear h4 k4 f0 f1
      go_wp2
      go_roundw
      case rel => exact ⟨k, _, by first | rfl | (congr 1; omega), by omega, HU⟩
      case measure => simp [intOf]

set_option maxHeartbeats 2000000 in
set_option maxRecDepth 100000 in
theorem rev14_any {Bs B o n c : Nat} {ty : Value} {w : World} {d : Array (Int × Int × Int)} (h : Srt Bs B o n c ty w d) (a b : Nat) (hab : a < b) (hb : b ≤ n) :
    Calls Try.prog 70 #[.agg #[.func (.func 30) #[] #[.pointer (some ⟨Bs, 0, none⟩)], .func (.func 63) #[] #[.slice (some ⟨B, o, none⟩) n c, ty]], .int .i64 a, .int .i64 b] w fun e w' => e = .returned (.tuple #[]) ∧ Srt Bs B o n c ty w' (Go.Sort.reverseRange d a b) ∧ Kpt B w w' := by
  have hD := SrtD.new h
  have HK0 : Hid (Kpt B w (w.alloc (.cells #[.func (.func 30) #[] #[.pointer (some ⟨Bs, 0, none⟩)], .func (.func 63) #[] #[.slice (some ⟨B, o, none⟩) n c, ty]] 82))) := Kpt.of ((Below.refl _ _).alloc (Nat.le_refl _) _)
  have hsm := h.small
  clear h
  go_enter Try.func70, Try.ntmps70
  go_wp2_with fail
  generalize w.alloc (.cells #[.func (.func 30) #[] #[.pointer (some ⟨Bs, 0, none⟩)], .func (.func 63) #[] #[.slice (some ⟨B, o, none⟩) n c, ty]] 82) = W at *
  go_loopw [6, 7] (fun vi vj wr => ∃ (i j : Nat) (dk : Array (Int × Int × Int)), vi = .int .i64 i ∧ vj = .int .i64 j ∧ i ≤ b ∧ j < b ∧ i ≤ j + 2 ∧ Hid (SrtD w.heap.size Bs B o n c ty wr dk ∧ Kpt B W wr ∧ Go.Sort.reverseLoop i j dk = Go.Sort.reverseLoop a (b - 1) d)) (fun vi vj _ => (intOf vj - intOf vi + 3).toNat)
  case atStart => exact ⟨a, b - 1, d, rfl, by congr 1; omega, by omega, by omega, by omega, hD, Kpt.refl _ _, rfl⟩
  case round =>
    obtain ⟨i, j, dk, rfl, rfl, hi, hj, hij, HR⟩ := hrel
    clear hD
    have f1 := HR.out.1.f1
    by_cases c1 : i < j
    · have c1' : (i : Int) < j := by omega
      go_wp2_with fail
      obtain ⟨w3, hs, h3, k3⟩ := HR.out.1.swap i j i j rfl rfl (by omega) (by omega)
      rw [hs, Oper.upon_value]
      have HU : Hid (SrtD w.heap.size Bs B o n c ty w3 (swp dk i j) ∧ Kpt B W w3 ∧ Go.Sort.reverseLoop (i + 1) (j - 1) (swp dk i j) = Go.Sort.reverseLoop a (b - 1) d) :=
        ⟨h3, HR.out.2.1.trans k3, by rw [← HR.out.2.2]; conv => rhs; rw [Go.Sort.reverseLoop]; simp [c1]⟩
      clear h3 k3 hs f1
      go_wp2
      go_roundw
      case rel => exact ⟨i + 1, j - 1, _, by go_num, by congr 1; omega, by omega, by omega, by omega, HU⟩
      case measure => simp [intOf]; omega
    · have c1' : ¬ (i : Int) < j := by omega
      go_wp2
      go_end0
      exact ⟨rfl, by unfold Go.Sort.reverseRange; rw [← HR.out.2.2]; rw [Go.Sort.reverseLoop]; simp only [c1, if_false]; exact HR.out.1.srt, HK0.out.trans HR.out.2.1⟩
end Go.Proofs.Ytcdkocdjbpebpaa
