/- The library's sort: the insertion sort that gives up. -/
import Derived.Test.YtcdkocdjbpebpaaN8
import Derived.Sort.WalkA6
namespace Go.Proofs.Ytcdkocdjbpebpaa
open Go.RowKit
open Go.Sort (SWO swp HoldsK putRowK PermIn SortedIn)

set_option maxHeartbeats 2000000 in
set_option maxRecDepth 100000 in
theorem pins14_any {Bs B o n c : Nat} {ty : Value} {w : World} {d : Array (Int × Int × Int)} (h : Srt Bs B o n c ty w d) (a b : Nat) (hab : a < b) (hb : b ≤ n) :
    Calls Try.prog 71 #[.agg #[.func (.func 30) #[] #[.pointer (some ⟨Bs, 0, none⟩)], .func (.func 63) #[] #[.slice (some ⟨B, o, none⟩) n c, ty]], .int .i64 a, .int .i64 b] w fun e w' => e = .returned (.bool (Go.Sort.partialInsertionSort ltO d a b).2) ∧ Srt Bs B o n c ty w' (Go.Sort.partialInsertionSort ltO d a b).1 ∧ Kpt B w w' := by
  have hD := SrtD.new h
  have HK0 : Hid (Kpt B w (w.alloc (.cells #[.func (.func 30) #[] #[.pointer (some ⟨Bs, 0, none⟩)], .func (.func 63) #[] #[.slice (some ⟨B, o, none⟩) n c, ty]] 82))) := Kpt.of ((Below.refl _ _).alloc (Nat.le_refl _) _)
  have hsm := h.small
  clear h
  unfold Go.Sort.partialInsertionSort
  go_enter Try.func71, Try.ntmps71
  go_wp2_with fail
  generalize w.alloc (.cells #[.func (.func 30) #[] #[.pointer (some ⟨Bs, 0, none⟩)], .func (.func 63) #[] #[.slice (some ⟨B, o, none⟩) n c, ty]] 82) = W at *
  go_loopw [7, 8] (fun vi vj wr => ∃ (s i : Nat) (dk : Array (Int × Int × Int)), vi = .int .i64 i ∧ vj = .int .i64 (5 - (s : Int)) ∧ s ≤ 5 ∧ a + 1 ≤ i ∧ i ≤ b ∧ Hid (SrtD w.heap.size Bs B o n c ty wr dk ∧ Kpt B w wr ∧ Go.Sort.partialIns ltO a b s i dk = Go.Sort.partialIns ltO a b 5 (a + 1) d)) (fun _ vj _ => (5 - intOf vj).toNat)
  case atStart => exact ⟨5, a + 1, d, by go_num, by rfl, by omega, by omega, by omega, hD, HK0.out, rfl⟩
  case round =>
    obtain ⟨s, i, dk, rfl, rfl, hs5, hai, hib, HR0⟩ := hrel
    clear hD HK0
    by_cases hs0 : s = 0
    · subst hs0
      have HP : Hid (Go.Sort.partialIns ltO a b 5 (a + 1) d = (dk, false)) := HR0.out.2.2.symm
      go_wp2
      go_ret
      exact ⟨by rw [HP.out]; rfl, by rw [HP.out]; exact ⟨HR0.out.1.srt, HR0.out.2.1⟩⟩
    · obtain ⟨s, rfl⟩ : ∃ x, s = x + 1 := ⟨s - 1, by omega⟩
      have hv : 5 - ((s + 1 : Nat) : Int) = 4 - (s : Int) := by omega
      simp only [hv]
      have hv5 : 4 - (s : Int) < 5 := by omega
      have HR : Hid (SrtD w.heap.size Bs B o n c ty wr dk ∧ Kpt B w wr) := ⟨HR0.out.1, HR0.out.2.1⟩
      have HL : Hid (Go.Sort.partialIns ltO a b (s + 1) i dk = Go.Sort.partialIns ltO a b 5 (a + 1) d) := HR0.out.2.2
      clear HR0 hv
      go_upto_block 2 with fail
      go_cut [7] from 13 to 90 (fun s7 wc => ∃ q : Nat, s7 = .int .i64 q ∧ i ≤ q ∧ q ≤ b ∧ Hid (Go.Sort.scanSorted ltO dk b i = q) ∧ Hid (SrtD w.heap.size Bs B o n c ty wc dk ∧ Kpt B w wc))
      case first =>
        generalize wr = wo at *
        go_wp2_with fail
        go_loopw [7] (fun v wr => ∃ q : Nat, v = .int .i64 q ∧ i ≤ q ∧ q ≤ b ∧ Hid (SrtD w.heap.size Bs B o n c ty wr dk ∧ Kpt B w wr ∧ Go.Sort.scanSorted ltO dk b q = Go.Sort.scanSorted ltO dk b i)) (fun v _ => b + 1 - (intOf v).toNat)
        case atStart => exact ⟨i, rfl, by omega, by omega, HR.out.1, HR.out.2, rfl⟩
        case round =>
          obtain ⟨q, rfl, hq0, hq1, HY⟩ := hrel
          have f0 := HY.out.1.f0
          by_cases cc : q < b
          · have cc' : (q : Int) < b := by omega
            cases hlv : ltO dk[q]! dk[q - 1]! with
            | false =>
              have HLv : Hid (ltO dk[q]! dk[q - 1]! = false) := hlv
              clear hlv
              go_wp2_with fail
              refine (less_at14 HY.out.1.srt q (q - 1) _ _ (by omega) (by omega) (by omega) (by omega)).mono ?_
              rintro e w9 ⟨rfl, hb9⟩
              rw [HLv.out]
              have H9 : Hid (SrtD w.heap.size Bs B o n c ty w9 dk ∧ Kpt B w w9) := ⟨HY.out.1.later hb9, HY.out.2.1.trans (Kpt.of hb9)⟩
              clear hb9 f0
              go_wp2
              go_roundw
              case rel => exact ⟨q + 1, by go_num, by omega, by omega, H9.out.1, H9.out.2, by rw [← HY.out.2.2]; exact (Go.Proofs.scanSorted_go _ _ _ _ cc HLv.out).symm⟩
              case measure => simp [intOf]; omega
            | true =>
              have HLv : Hid (ltO dk[q]! dk[q - 1]! = true) := hlv
              clear hlv
              go_wp2_with fail
              refine (less_at14 HY.out.1.srt q (q - 1) _ _ (by omega) (by omega) (by omega) (by omega)).mono ?_
              rintro e w9 ⟨rfl, hb9⟩
              rw [HLv.out]
              have H9 : Hid (SrtD w.heap.size Bs B o n c ty w9 dk ∧ Kpt B w w9) := ⟨HY.out.1.later hb9, HY.out.2.1.trans (Kpt.of hb9)⟩
              clear hb9 f0
              go_wp2
              go_meet
              case rel => exact ⟨q, rfl, by omega, by omega, by show _ = _; rw [← HY.out.2.2]; exact Go.Proofs.scanSorted_stop _ _ _ _ (Or.inr HLv.out), H9⟩
          · have cc' : ¬ (q : Int) < b := by omega
            go_wp2
            go_meet
            case rel => exact ⟨q, rfl, by omega, by omega, by show _ = _; rw [← HY.out.2.2]; exact Go.Proofs.scanSorted_stop _ _ _ _ (Or.inl cc), HY.out.1, HY.out.2.1⟩
      case rest =>
        obtain ⟨q, rfl, hq0, hq1, HQ, HS⟩ := hcut
        by_cases cb : q = b
        · subst cb
          have HP : Hid (Go.Sort.partialIns ltO a q 5 (a + 1) d = (dk, true)) := by show _ = _; rw [← HL.out, Go.Sort.partialIns_succ, HQ.out, if_pos rfl]
          go_wp2
          go_ret
          exact ⟨by rw [HP.out]; rfl, by rw [HP.out]; exact ⟨HS.out.1.srt, HS.out.2⟩⟩
        · have cb' : ((q : Int) == b) = false := by simpa using (by omega : ¬ (q : Int) = b)
          by_cases c50 : b - a < 50
          · have c50' : (b : Int) - a < 50 := by omega
            have HP : Hid (Go.Sort.partialIns ltO a b 5 (a + 1) d = (dk, false)) := by show _ = _; rw [← HL.out, Go.Sort.partialIns_succ, HQ.out, if_neg cb, if_pos c50]
            go_wp2
            go_ret
            exact ⟨by rw [HP.out]; rfl, by rw [HP.out]; exact ⟨HS.out.1.srt, HS.out.2⟩⟩
          · have c50' : ¬ (b : Int) - a < 50 := by omega
            have HL2 : Hid (Go.Sort.partialIns ltO a b s q (Go.Sort.fixUp ltO b q (Go.Sort.fixDown ltO a q (swp dk q (q - 1)))) = Go.Sort.partialIns ltO a b 5 (a + 1) d) := by show _ = _; rw [← HL.out, Go.Sort.partialIns_succ, HQ.out, if_neg cb, if_neg c50]
            have f1 := HS.out.1.f1
            go_wp2_with fail
            obtain ⟨w5, hs, h5, k5⟩ := HS.out.1.swap q (q - 1) q ((q : Int) - 1) rfl (by omega) (by omega) (by omega)
            rw [hs, Oper.upon_value]
            have HT : Hid (SrtD w.heap.size Bs B o n c ty w5 (swp dk q (q - 1)) ∧ Kpt B w w5) := ⟨h5, HS.out.2.trans k5⟩
            clear hs h5 k5 f1
            generalize swp dk q (q - 1) = d2 at *
            go_upto_if 47 with fail
            go_cut [9] from 13 to 90 (fun _ wc => Hid (SrtD w.heap.size Bs B o n c ty wc (Go.Sort.fixDown ltO a q d2) ∧ Kpt B w wc))
            case first =>
              generalize w5 = wo at *
              by_cases cg : q - a ≥ 2
              · have cg' : ((q : Int) - a ≥ 2) := by omega
                have cgb : decide (2 ≤ (q : Int) - a) = true := decide_eq_true (by omega)
                have HF : Hid (Go.Sort.fixDown ltO a q d2 = Go.Sort.shiftDown ltO (q - 1) d2) := if_pos cg
                go_wp2_with fail
                go_loopw [9] (fun v wr => ∃ (t : Nat) (dj : Array (Int × Int × Int)), v = .int .i64 t ∧ t ≤ q - 1 ∧ Hid (SrtD w.heap.size Bs B o n c ty wr dj ∧ Kpt B w wr ∧ Go.Sort.shiftDown ltO t dj = Go.Sort.shiftDown ltO (q - 1) d2)) (fun v _ => (intOf v).toNat)
                case atStart => exact ⟨q - 1, d2, by first | rfl | go_num | (congr 1; omega), by omega, HT.out.1, HT.out.2, rfl⟩
                case round =>
                  obtain ⟨t, dj, rfl, ht, HY⟩ := hrel
                  have f0 := HY.out.1.f0
                  by_cases ce : 1 ≤ t
                  · have ce' : ((t : Int) ≥ 1) := by omega
                    cases hlv : ltO dj[t]! dj[t - 1]! with
                    | true =>
                      have HLv : Hid (ltO dj[t]! dj[t - 1]! = true) := hlv
                      clear hlv
                      go_wp2_with fail
                      refine (less_at14 HY.out.1.srt t (t - 1) _ _ (by omega) (by omega) (by omega) (by omega)).mono ?_
                      rintro e w9 ⟨rfl, hb9⟩
                      rw [HLv.out]
                      have H9 : Hid (SrtD w.heap.size Bs B o n c ty w9 dj ∧ Kpt B w w9) := ⟨HY.out.1.later hb9, HY.out.2.1.trans (Kpt.of hb9)⟩
                      clear hb9 f0
                      have f1 := H9.out.1.f1
                      go_wp2_with fail
                      obtain ⟨w5, hs, h5, k5⟩ := H9.out.1.swap t (t - 1) t ((t : Int) - 1) rfl (by omega) (by omega) (by omega)
                      rw [hs, Oper.upon_value]
                      have HZ : Hid (SrtD w.heap.size Bs B o n c ty w5 (swp dj t (t - 1)) ∧ Kpt B w w5 ∧ Go.Sort.shiftDown ltO (t - 1) (swp dj t (t - 1)) = Go.Sort.shiftDown ltO (q - 1) d2) := ⟨h5, H9.out.2.trans k5, by rw [← HY.out.2.2]; exact (Go.Proofs.shiftDown_go _ _ _ ce HLv.out).symm⟩
                      clear hs h5 k5 f1
                      go_wp2
                      go_roundw
                      case rel =>
                        (repeat apply Exists.intro)
                        refine ⟨⟨t - 1, _, ?_, by omega, HZ⟩, ?_⟩
                        rotate_left
                        · first | rfl | rw [cgb]
                        · first | go_num | (congr 1; omega)
                      case measure => simp [intOf]; omega
                    | false =>
                      have HLv : Hid (ltO dj[t]! dj[t - 1]! = false) := hlv
                      clear hlv
                      go_wp2_with fail
                      refine (less_at14 HY.out.1.srt t (t - 1) _ _ (by omega) (by omega) (by omega) (by omega)).mono ?_
                      rintro e w9 ⟨rfl, hb9⟩
                      rw [HLv.out]
                      have H9 : Hid (SrtD w.heap.size Bs B o n c ty w9 (Go.Sort.shiftDown ltO (q - 1) d2) ∧ Kpt B w w9) := ⟨by rw [← HY.out.2.2, Go.Proofs.shiftDown_stop _ _ _ (Or.inr HLv.out)]; exact HY.out.1.later hb9, HY.out.2.1.trans (Kpt.of hb9)⟩
                      clear hb9 f0
                      rw [← HF.out] at H9
                      go_wp2
                      go_meet
                      case rel => exact H9
                  · have ce' : ¬ ((t : Int) ≥ 1) := by omega
                    have H9 : Hid (SrtD w.heap.size Bs B o n c ty wr (Go.Sort.shiftDown ltO (q - 1) d2) ∧ Kpt B w wr) := ⟨by rw [← HY.out.2.2, Go.Proofs.shiftDown_stop _ _ _ (Or.inl (by omega))]; exact HY.out.1, HY.out.2.1⟩
                    rw [← HF.out] at H9
                    go_wp2
                    go_meet
                    case rel => exact H9
              · have cg' : ¬ ((q : Int) - a ≥ 2) := by omega
                have HF : Hid (Go.Sort.fixDown ltO a q d2 = d2) := if_neg cg
                rw [← HF.out] at HT
                go_wp2
                go_meet
                case rel => exact HT
            case rest =>
              have HU : Hid (SrtD w.heap.size Bs B o n c ty wc (Go.Sort.fixDown ltO a q d2) ∧ Kpt B w wc) := hcut
              clear hcut
              generalize Go.Sort.fixDown ltO a q d2 = d3 at *
              go_upto_if 70 with fail
              generalize wc = wo at *
              by_cases cg : b - q ≥ 2
              · have cg' : ((b : Int) - q ≥ 2) := by omega
                have cgb : decide (2 ≤ (b : Int) - q) = true := decide_eq_true (by omega)
                have HF : Hid (Go.Sort.fixUp ltO b q d3 = Go.Sort.shiftUp ltO b (q + 1) d3) := if_pos cg
                go_wp2_with fail
                go_loopw [10] (fun v wr => ∃ (t : Nat) (dj : Array (Int × Int × Int)), v = .int .i64 t ∧ (q + 1 ≤ t ∧ t ≤ b) ∧ Hid (SrtD w.heap.size Bs B o n c ty wr dj ∧ Kpt B w wr ∧ Go.Sort.shiftUp ltO b t dj = Go.Sort.shiftUp ltO b (q + 1) d3)) (fun v _ => b + 1 - (intOf v).toNat)
                case atStart => exact ⟨q + 1, d3, by first | rfl | go_num | (congr 1; omega), by omega, HU.out.1, HU.out.2, rfl⟩
                case round =>
                  obtain ⟨t, dj, rfl, ht, HY⟩ := hrel
                  have f0 := HY.out.1.f0
                  by_cases ce : t < b
                  · have ce' : ((t : Int) < b) := by omega
                    cases hlv : ltO dj[t]! dj[t - 1]! with
                    | true =>
                      have HLv : Hid (ltO dj[t]! dj[t - 1]! = true) := hlv
                      clear hlv
                      go_wp2_with fail
                      refine (less_at14 HY.out.1.srt t (t - 1) _ _ (by omega) (by omega) (by omega) (by omega)).mono ?_
                      rintro e w9 ⟨rfl, hb9⟩
                      rw [HLv.out]
                      have H9 : Hid (SrtD w.heap.size Bs B o n c ty w9 dj ∧ Kpt B w w9) := ⟨HY.out.1.later hb9, HY.out.2.1.trans (Kpt.of hb9)⟩
                      clear hb9 f0
                      have f1 := H9.out.1.f1
                      go_wp2_with fail
                      obtain ⟨w5, hs, h5, k5⟩ := H9.out.1.swap t (t - 1) t ((t : Int) - 1) rfl (by omega) (by omega) (by omega)
                      rw [hs, Oper.upon_value]
                      have HZ : Hid (SrtD w.heap.size Bs B o n c ty w5 (swp dj t (t - 1)) ∧ Kpt B w w5 ∧ Go.Sort.shiftUp ltO b (t + 1) (swp dj t (t - 1)) = Go.Sort.shiftUp ltO b (q + 1) d3) := ⟨h5, H9.out.2.trans k5, by rw [← HY.out.2.2]; exact (Go.Proofs.shiftUp_go _ _ _ _ ce HLv.out).symm⟩
                      clear hs h5 k5 f1
                      go_wp2
                      go_roundw
                      case rel =>
                        (repeat apply Exists.intro)
                        refine ⟨⟨t + 1, _, ?_, by omega, HZ⟩, ?_⟩
                        rotate_left
                        · first | rfl | rw [cgb]
                        · first | go_num | (congr 1; omega)
                      case measure => simp [intOf]; omega
                    | false =>
                      have HLv : Hid (ltO dj[t]! dj[t - 1]! = false) := hlv
                      clear hlv
                      go_wp2_with fail
                      refine (less_at14 HY.out.1.srt t (t - 1) _ _ (by omega) (by omega) (by omega) (by omega)).mono ?_
                      rintro e w9 ⟨rfl, hb9⟩
                      rw [HLv.out]
                      have H9 : Hid (SrtD w.heap.size Bs B o n c ty w9 (Go.Sort.shiftUp ltO b (q + 1) d3) ∧ Kpt B w w9) := ⟨by rw [← HY.out.2.2, Go.Proofs.shiftUp_stop _ _ _ _ (Or.inr HLv.out)]; exact HY.out.1.later hb9, HY.out.2.1.trans (Kpt.of hb9)⟩
                      clear hb9 f0
                      rw [← HF.out] at H9
                      go_wp2
                      go_roundw
                      case rel => exact ⟨s, q, _, rfl, by congr 1; omega, by omega, by omega, by omega, H9.out.1, H9.out.2, HL2.out⟩
                      case measure => simp [intOf]; omega
                  · have ce' : ¬ ((t : Int) < b) := by omega
                    have H9 : Hid (SrtD w.heap.size Bs B o n c ty wr (Go.Sort.shiftUp ltO b (q + 1) d3) ∧ Kpt B w wr) := ⟨by rw [← HY.out.2.2, Go.Proofs.shiftUp_stop _ _ _ _ (Or.inl ce)]; exact HY.out.1, HY.out.2.1⟩
                    rw [← HF.out] at H9
                    go_wp2
                    go_roundw
                    case rel => exact ⟨s, q, _, rfl, by congr 1; omega, by omega, by omega, by omega, H9.out.1, H9.out.2, HL2.out⟩
                    case measure => simp [intOf]; omega
              · have cg' : ¬ ((b : Int) - q ≥ 2) := by omega
                have HF : Hid (Go.Sort.fixUp ltO b q d3 = d3) := if_neg cg
                rw [← HF.out] at HU
                go_wp2
                go_roundw
                case rel => exact ⟨s, q, _, rfl, by congr 1; omega, by omega, by omega, by omega, HU.out.1, HU.out.2, HL2.out⟩
                case measure => simp [intOf]; omega
end Go.Proofs.Ytcdkocdjbpebpaa
