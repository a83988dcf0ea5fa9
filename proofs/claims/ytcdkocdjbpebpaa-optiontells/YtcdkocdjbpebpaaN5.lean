/- The library's sort: siftDown. -/
import Derived.Test.YtcdkocdjbpebpaaN4
namespace Go.Proofs.Ytcdkocdjbpebpaa
open Go.RowKit
open Go.Sort (SWO swp HoldsK putRowK PermIn SortedIn)

section
variable {lt : Int × Int × Int → Int × Int × Int → Bool} {hi first root : Nat} {d : Array (Int × Int × Int)}
theorem sift_end (h : hi ≤ 2 * root + 1) : Go.Sort.siftDown lt hi first root d = d := by rw [Go.Sort.siftDown, dif_pos h]
theorem sift_r_stop (h : 2 * root + 1 + 1 < hi) (h1 : lt d[first + (2 * root + 1)]! d[first + (2 * root + 1) + 1]! = true) (h2 : lt d[first + root]! d[first + (2 * root + 2)]! = false) : Go.Sort.siftDown lt hi first root d = d := by
  rw [Go.Sort.siftDown, dif_neg (by omega), if_pos (by simp [h, h1]), if_pos (by simp [h2])]
theorem sift_r_go (h : 2 * root + 1 + 1 < hi) (h1 : lt d[first + (2 * root + 1)]! d[first + (2 * root + 1) + 1]! = true) (h2 : lt d[first + root]! d[first + (2 * root + 2)]! = true) :
    Go.Sort.siftDown lt hi first root d = Go.Sort.siftDown lt hi first (2 * root + 2) (swp d (first + root) (first + (2 * root + 2))) := by
  rw [Go.Sort.siftDown, dif_neg (by omega), if_pos (by simp [h, h1]), if_neg (by simp [h2]), dif_pos (by omega)]
theorem sift_l_stop (h : ¬ 2 * root + 1 ≥ hi) (h1 : ¬ (2 * root + 1 + 1 < hi) ∨ lt d[first + (2 * root + 1)]! d[first + (2 * root + 1) + 1]! = false) (h2 : lt d[first + root]! d[first + (2 * root + 1)]! = false) : Go.Sort.siftDown lt hi first root d = d := by
  rw [Go.Sort.siftDown, dif_neg h, if_neg (by rcases h1 with h1 | h1 <;> simp [h1]), if_pos (by simp [h2])]
theorem sift_l_go (h : ¬ 2 * root + 1 ≥ hi) (h1 : ¬ (2 * root + 1 + 1 < hi) ∨ lt d[first + (2 * root + 1)]! d[first + (2 * root + 1) + 1]! = false) (h2 : lt d[first + root]! d[first + (2 * root + 1)]! = true) :
    Go.Sort.siftDown lt hi first root d = Go.Sort.siftDown lt hi first (2 * root + 1) (swp d (first + root) (first + (2 * root + 1))) := by
  rw [Go.Sort.siftDown, dif_neg h, if_neg (by rcases h1 with h1 | h1 <;> simp [h1]), if_neg (by simp [h2])]
end

set_option maxHeartbeats 2000000 in
set_option maxRecDepth 100000 in
theorem sift14_any {Bs B o n c : Nat} {ty : Value} {w : World} {d : Array (Int × Int × Int)} (h : Srt Bs B o n c ty w d) (lo hi first : Nat) (hl : lo ≤ hi) (hn : first + hi ≤ n) :
    Calls Try.prog 95 #[.agg #[.func (.func 30) #[] #[.pointer (some ⟨Bs, 0, none⟩)], .func (.func 63) #[] #[.slice (some ⟨B, o, none⟩) n c, ty]], .int .i64 lo, .int .i64 hi, .int .i64 first] w fun e w' => e = .returned (.tuple #[]) ∧ Srt Bs B o n c ty w' (Go.Sort.siftDown ltO hi first lo d) ∧ Kpt B w w' := by
  have hD := SrtD.new h
  have HK0 : Hid (Kpt B w (w.alloc (.cells #[.func (.func 30) #[] #[.pointer (some ⟨Bs, 0, none⟩)], .func (.func 63) #[] #[.slice (some ⟨B, o, none⟩) n c, ty]] 82))) := Kpt.of ((Below.refl _ _).alloc (Nat.le_refl _) _)
  have hsm := h.small
  clear h
  go_enter Try.func95, Try.ntmps95
  go_wp2_with fail
  generalize w.alloc (.cells #[.func (.func 30) #[] #[.pointer (some ⟨Bs, 0, none⟩)], .func (.func 63) #[] #[.slice (some ⟨B, o, none⟩) n c, ty]] 82) = W at *
  go_loopw [8] (fun vi wr => ∃ (root : Nat) (dk : Array (Int × Int × Int)), vi = .int .i64 root ∧ root ≤ hi ∧ Hid (SrtD w.heap.size Bs B o n c ty wr dk ∧ Kpt B W wr ∧ Go.Sort.siftDown ltO hi first root dk = Go.Sort.siftDown ltO hi first lo d)) (fun vi _ => hi - (intOf vi).toNat)
  case atStart => exact ⟨lo, d, rfl, by omega, hD, Kpt.refl _ _, rfl⟩
  case round =>
    obtain ⟨root, dk, rfl, hrh, HR⟩ := hrel
    clear hD
    have f0 := HR.out.1.f0
    have HR1 : Hid (SrtD w.heap.size Bs B o n c ty wr dk ∧ Kpt B W wr) := ⟨HR.out.1, HR.out.2.1⟩
    by_cases c1 : hi ≤ 2 * root + 1
    · have c1' : (2 * (root : Int) + 1 ≥ hi) := by omega
      go_wp2
      go_end0
      exact ⟨rfl, by rw [← HR.out.2.2, sift_end c1]; exact HR.out.1.srt, HK0.out.trans HR.out.2.1⟩
    · have c1' : ¬ (2 * (root : Int) + 1 ≥ hi) := by omega
      by_cases c2 : 2 * root + 1 + 1 < hi
      · have c2' : (2 * (root : Int) + 1 + 1 < hi) := by omega
        cases h1 : ltO dk[first + (2 * root + 1)]! dk[first + (2 * root + 1) + 1]! with
        | true =>
          have H1 : Hid (ltO dk[first + (2 * root + 1)]! dk[first + (2 * root + 1) + 1]! = true) := h1
          clear h1
          go_wp2_with fail
          refine (less_at14 HR1.out.1.srt (first + (2 * root + 1)) (first + (2 * root + 1) + 1) _ _ (by omega) (by omega) (by omega) (by omega)).mono ?_
          rintro e w2 ⟨rfl, hb2⟩
          rw [H1.out]
          have HR2 : Hid (SrtD w.heap.size Bs B o n c ty w2 dk ∧ Kpt B W w2) := ⟨HR1.out.1.later hb2, HR1.out.2.trans (Kpt.of hb2)⟩
          clear hb2 f0
          have f0 := HR2.out.1.f0
          cases h2 : ltO dk[first + root]! dk[first + (2 * root + 2)]! with
          | true =>
            have H2 : Hid (ltO dk[first + root]! dk[first + (2 * root + 2)]! = true) := h2
            clear h2
            go_wp2_with fail
            refine (less_at14 HR2.out.1.srt (first + root) (first + (2 * root + 2)) _ _ (by omega) (by omega) (by omega) (by omega)).mono ?_
            rintro e w4 ⟨rfl, hb4⟩
            rw [H2.out]
            have H4 : Hid (SrtD w.heap.size Bs B o n c ty w4 dk ∧ Kpt B W w4) := ⟨HR2.out.1.later hb4, HR2.out.2.trans (Kpt.of hb4)⟩
            clear hb4
            have f1 := H4.out.1.f1
            go_wp2_with fail
            obtain ⟨w5, hs, h5, k5⟩ := H4.out.1.swap (first + root) (first + (2 * root + 2)) ((first : Int) + root) ((first : Int) + (2 * (root : Int) + 1 + 1)) (by omega) (by omega) (by omega) (by omega)
            rw [hs, Oper.upon_value]
            have H5 : Hid (SrtD w.heap.size Bs B o n c ty w5 (swp dk (first + root) (first + (2 * root + 2))) ∧ Kpt B W w5 ∧ Go.Sort.siftDown ltO hi first (2 * root + 2) (swp dk (first + root) (first + (2 * root + 2))) = Go.Sort.siftDown ltO hi first lo d) :=
              ⟨h5, H4.out.2.trans k5, by rw [← HR.out.2.2]; exact (sift_r_go c2 H1.out H2.out).symm⟩
            clear h5 k5 hs f1
            go_wp2
            go_roundw
            case rel => exact ⟨2 * root + 2, _, by go_num, by omega, H5⟩
            case measure => simp [intOf]; omega
          | false =>
            have H2 : Hid (ltO dk[first + root]! dk[first + (2 * root + 2)]! = false) := h2
            clear h2
            go_wp2_with fail
            refine (less_at14 HR2.out.1.srt (first + root) (first + (2 * root + 2)) _ _ (by omega) (by omega) (by omega) (by omega)).mono ?_
            rintro e w4 ⟨rfl, hb4⟩
            rw [H2.out]
            have H4 : Hid (Srt Bs B o n c ty w4 (Go.Sort.siftDown ltO hi first lo d) ∧ Kpt B w w4) := ⟨by rw [← HR.out.2.2, sift_r_stop c2 H1.out H2.out]; exact (HR2.out.1.later hb4).srt, (HK0.out.trans HR2.out.2).trans (Kpt.of hb4)⟩
            clear hb4
            go_wp2
            (try simp only [Exit.inBlock, Exit.then])
            refine bodyPost_ret (results_none rfl _ _ _) rfl ?_
            exact ⟨rfl, H4.out⟩
        | false =>
          have H1 : Hid (ltO dk[first + (2 * root + 1)]! dk[first + (2 * root + 1) + 1]! = false) := h1
          clear h1
          go_wp2_with fail
          refine (less_at14 HR1.out.1.srt (first + (2 * root + 1)) (first + (2 * root + 1) + 1) _ _ (by omega) (by omega) (by omega) (by omega)).mono ?_
          rintro e w2 ⟨rfl, hb2⟩
          rw [H1.out]
          have HR2 : Hid (SrtD w.heap.size Bs B o n c ty w2 dk ∧ Kpt B W w2) := ⟨HR1.out.1.later hb2, HR1.out.2.trans (Kpt.of hb2)⟩
          clear hb2 f0
          have f0 := HR2.out.1.f0
          cases h2 : ltO dk[first + root]! dk[first + (2 * root + 1)]! with
          | true =>
            have H2 : Hid (ltO dk[first + root]! dk[first + (2 * root + 1)]! = true) := h2
            clear h2
            go_wp2_with fail
            refine (less_at14 HR2.out.1.srt (first + root) (first + (2 * root + 1)) _ _ (by omega) (by omega) (by omega) (by omega)).mono ?_
            rintro e w4 ⟨rfl, hb4⟩
            rw [H2.out]
            have H4 : Hid (SrtD w.heap.size Bs B o n c ty w4 dk ∧ Kpt B W w4) := ⟨HR2.out.1.later hb4, HR2.out.2.trans (Kpt.of hb4)⟩
            clear hb4
            have f1 := H4.out.1.f1
            go_wp2_with fail
            obtain ⟨w5, hs, h5, k5⟩ := H4.out.1.swap (first + root) (first + (2 * root + 1)) ((first : Int) + root) ((first : Int) + (2 * (root : Int) + 1)) (by omega) (by omega) (by omega) (by omega)
            rw [hs, Oper.upon_value]
            have H5 : Hid (SrtD w.heap.size Bs B o n c ty w5 (swp dk (first + root) (first + (2 * root + 1))) ∧ Kpt B W w5 ∧ Go.Sort.siftDown ltO hi first (2 * root + 1) (swp dk (first + root) (first + (2 * root + 1))) = Go.Sort.siftDown ltO hi first lo d) :=
              ⟨h5, H4.out.2.trans k5, by rw [← HR.out.2.2]; exact (sift_l_go c1 (Or.inr H1.out) H2.out).symm⟩
            clear h5 k5 hs f1
            go_wp2
            go_roundw
            case rel => exact ⟨2 * root + 1, _, by go_num, by omega, H5⟩
            case measure => simp [intOf]; omega
          | false =>
            have H2 : Hid (ltO dk[first + root]! dk[first + (2 * root + 1)]! = false) := h2
            clear h2
            go_wp2_with fail
            refine (less_at14 HR2.out.1.srt (first + root) (first + (2 * root + 1)) _ _ (by omega) (by omega) (by omega) (by omega)).mono ?_
            rintro e w4 ⟨rfl, hb4⟩
            rw [H2.out]
            have H4 : Hid (Srt Bs B o n c ty w4 (Go.Sort.siftDown ltO hi first lo d) ∧ Kpt B w w4) := ⟨by rw [← HR.out.2.2, sift_l_stop c1 (Or.inr H1.out) H2.out]; exact (HR2.out.1.later hb4).srt, (HK0.out.trans HR2.out.2).trans (Kpt.of hb4)⟩
            clear hb4
            go_wp2
            (try simp only [Exit.inBlock, Exit.then])
            refine bodyPost_ret (results_none rfl _ _ _) rfl ?_
            exact ⟨rfl, H4.out⟩
      · have c2' : ¬ (2 * (root : Int) + 1 + 1 < hi) := by omega
        cases h2 : ltO dk[first + root]! dk[first + (2 * root + 1)]! with
        | true =>
          have H2 : Hid (ltO dk[first + root]! dk[first + (2 * root + 1)]! = true) := h2
          clear h2
          go_wp2_with fail
          refine (less_at14 HR1.out.1.srt (first + root) (first + (2 * root + 1)) _ _ (by omega) (by omega) (by omega) (by omega)).mono ?_
          rintro e w4 ⟨rfl, hb4⟩
          rw [H2.out]
          have H4 : Hid (SrtD w.heap.size Bs B o n c ty w4 dk ∧ Kpt B W w4) := ⟨HR1.out.1.later hb4, HR1.out.2.trans (Kpt.of hb4)⟩
          clear hb4
          have f1 := H4.out.1.f1
          go_wp2_with fail
          obtain ⟨w5, hs, h5, k5⟩ := H4.out.1.swap (first + root) (first + (2 * root + 1)) ((first : Int) + root) ((first : Int) + (2 * (root : Int) + 1)) (by omega) (by omega) (by omega) (by omega)
          rw [hs, Oper.upon_value]
          have H5 : Hid (SrtD w.heap.size Bs B o n c ty w5 (swp dk (first + root) (first + (2 * root + 1))) ∧ Kpt B W w5 ∧ Go.Sort.siftDown ltO hi first (2 * root + 1) (swp dk (first + root) (first + (2 * root + 1))) = Go.Sort.siftDown ltO hi first lo d) :=
            ⟨h5, H4.out.2.trans k5, by rw [← HR.out.2.2]; exact (sift_l_go c1 (Or.inl c2) H2.out).symm⟩
          clear h5 k5 hs f1
          go_wp2
          go_roundw
          case rel => exact ⟨2 * root + 1, _, by go_num, by omega, H5⟩
          case measure => simp [intOf]; omega
        | false =>
          have H2 : Hid (ltO dk[first + root]! dk[first + (2 * root + 1)]! = false) := h2
          clear h2
          go_wp2_with fail
          refine (less_at14 HR1.out.1.srt (first + root) (first + (2 * root + 1)) _ _ (by omega) (by omega) (by omega) (by omega)).mono ?_
          rintro e w4 ⟨rfl, hb4⟩
          rw [H2.out]
          have H4 : Hid (Srt Bs B o n c ty w4 (Go.Sort.siftDown ltO hi first lo d) ∧ Kpt B w w4) := ⟨by rw [← HR.out.2.2, sift_l_stop c1 (Or.inl c2) H2.out]; exact (HR1.out.1.later hb4).srt, (HK0.out.trans HR1.out.2).trans (Kpt.of hb4)⟩
          clear hb4
          go_wp2
          (try simp only [Exit.inBlock, Exit.then])
          refine bodyPost_ret (results_none rfl _ _ _) rfl ?_
          exact ⟨rfl, H4.out⟩
end Go.Proofs.Ytcdkocdjbpebpaa
