/- The library's sort: the partition by what is the same. -/
import Derived.Test.YtcdkocdjbpebpaaN7
namespace Go.Proofs.Ytcdkocdjbpebpaa
open Go.RowKit
open Go.Sort (SWO swp HoldsK putRowK PermIn SortedIn)

theorem loopE_end {d : Array (Int × Int × Int)} {a i j i2 j2 : Nat} (hi : Go.Sort.scanUp (fun x => !ltO d[a]! x) d j i = i2) (hj : Go.Sort.scanDown (fun x => ltO d[a]! x) d i2 j = j2) (h : j2 < i2) : Go.Sort.partEqLoop ltO a i j d = (i2, d) := by
  subst hi hj
  rw [Go.Sort.partEqLoop_eq]
  exact if_pos h
theorem loopE_go {d : Array (Int × Int × Int)} {a i j i2 j2 : Nat} (hi : Go.Sort.scanUp (fun x => !ltO d[a]! x) d j i = i2) (hj : Go.Sort.scanDown (fun x => ltO d[a]! x) d i2 j = j2) (h : ¬ j2 < i2) :
    Go.Sort.partEqLoop ltO a i j d = Go.Sort.partEqLoop ltO a (i2 + 1) (j2 - 1) (swp d i2 j2) := by
  subst hi hj
  rw [Go.Sort.partEqLoop_eq]
  exact if_neg h

set_option maxHeartbeats 2000000 in
set_option maxRecDepth 100000 in
theorem parteq14_any {Bs B o n c : Nat} {ty : Value} {w : World} {d : Array (Int × Int × Int)} (h : Srt Bs B o n c ty w d) (a b p : Nat) (hap : a ≤ p) (hpb : p < b) (hb : b ≤ n) :
    Calls Try.prog 72 #[.agg #[.func (.func 30) #[] #[.pointer (some ⟨Bs, 0, none⟩)], .func (.func 63) #[] #[.slice (some ⟨B, o, none⟩) n c, ty]], .int .i64 a, .int .i64 b, .int .i64 p] w fun e w' => e = .returned (.int .i64 (Go.Sort.partitionEqual ltO d a b p).1) ∧ Srt Bs B o n c ty w' (Go.Sort.partitionEqual ltO d a b p).2 ∧ Kpt B w w' := by
  have hD := SrtD.new h
  have HK0 : Hid (Kpt B w (w.alloc (.cells #[.func (.func 30) #[] #[.pointer (some ⟨Bs, 0, none⟩)], .func (.func 63) #[] #[.slice (some ⟨B, o, none⟩) n c, ty]] 82))) := Kpt.of ((Below.refl _ _).alloc (Nat.le_refl _) _)
  have hsm := h.small
  clear h
  go_enter Try.func72, Try.ntmps72
  have f1 := hD.f1
  go_wp2_with fail
  generalize w.alloc (.cells #[.func (.func 30) #[] #[.pointer (some ⟨Bs, 0, none⟩)], .func (.func 63) #[] #[.slice (some ⟨B, o, none⟩) n c, ty]] 82) = W at *
  obtain ⟨w3, hs, h3, k3⟩ := hD.swap a p a p rfl rfl (by omega) (by omega)
  rw [hs, Oper.upon_value]
  have HD : Hid (SrtD w.heap.size Bs B o n c ty w3 (swp d a p) ∧ Kpt B w w3) := ⟨h3, HK0.out.trans k3⟩
  clear hs h3 k3 hD HK0 f1
  go_wp2_with fail
  go_loopw [9, 10] (fun vi vj wr => ∃ (i j : Nat) (dk : Array (Int × Int × Int)), vi = .int .i64 i ∧ vj = .int .i64 j ∧ a + 1 ≤ i ∧ j < b ∧ a ≤ j ∧ i ≤ j + 2 ∧ Hid (SrtD w.heap.size Bs B o n c ty wr dk ∧ Kpt B w wr ∧ Go.Sort.partEqLoop ltO a i j dk = Go.Sort.partEqLoop ltO a (a + 1) (b - 1) (swp d a p))) (fun vi vj _ => (intOf vj - intOf vi + 3).toNat)
  case atStart => exact ⟨a + 1, b - 1, _, by go_num, by congr 1; omega, by omega, by omega, by omega, by omega, HD.out.1, HD.out.2, rfl⟩
  case round =>
    obtain ⟨i, j, dk, rfl, rfl, ha1, hjb, haj, hij, HR0⟩ := hrel
    have HR : Hid (SrtD w.heap.size Bs B o n c ty wr dk ∧ Kpt B w wr) := ⟨HR0.out.1, HR0.out.2.1⟩
    have HL : Hid (Go.Sort.partEqLoop ltO a i j dk = Go.Sort.partEqLoop ltO a (a + 1) (b - 1) (swp d a p)) := HR0.out.2.2
    clear HR0
    go_upto_block 2 with fail
    go_cut [9] from 20 to 56 (fun s wc => ∃ q : Nat, s = .int .i64 q ∧ (i) ≤ q ∧ (q ≤ (j) + 1 ∨ q = (i)) ∧ Hid (Go.Sort.scanUp (fun x => !ltO dk[a]! x) dk (j) (i) = q) ∧ Hid (SrtD w.heap.size Bs B o n c ty wc dk ∧ Kpt B w wc))
    case first =>
      generalize wr = wo at *
      go_wp2_with fail
      go_loopw [9] (fun v wr => ∃ q : Nat, v = .int .i64 q ∧ (i) ≤ q ∧ (q ≤ (j) + 1 ∨ q = (i)) ∧ Hid (SrtD w.heap.size Bs B o n c ty wr dk ∧ Kpt B w wr ∧ Go.Sort.scanUp (fun x => !ltO dk[a]! x) dk (j) q = Go.Sort.scanUp (fun x => !ltO dk[a]! x) dk (j) (i))) (fun v _ => (j) + 2 - (intOf v).toNat)
      case atStart => exact ⟨i, by first | rfl | go_num | (congr 1; omega), by omega, by omega, HR.out.1, HR.out.2, rfl⟩
      case round =>
        obtain ⟨q, rfl, hq0, hq1, HY⟩ := hrel
        have f0 := HY.out.1.f0
        by_cases cc : q ≤ j
        · have cc' : (q : Int) ≤ ((j : Nat) : Int) := by omega
          cases hlv : ltO dk[a]! dk[q]! with
          | false =>
            have HL : Hid (ltO dk[a]! dk[q]! = false) := hlv
            clear hlv
            go_wp2_with fail
            refine (less_at14 HY.out.1.srt a q _ _ (by omega) (by omega) (by omega) (by omega)).mono ?_
            rintro e w9 ⟨rfl, hb9⟩
            rw [HL.out]
            have H9 : Hid (SrtD w.heap.size Bs B o n c ty w9 dk ∧ Kpt B w w9) := ⟨HY.out.1.later hb9, HY.out.2.1.trans (Kpt.of hb9)⟩
            clear hb9 f0
            go_wp2
            go_roundw
            case rel => exact ⟨q + 1, by first | go_num | (congr 1; omega), by omega, by omega, H9.out.1, H9.out.2, by rw [← HY.out.2.2]; exact (Go.Proofs.scanUp_go _ _ _ _ cc (by simpa using HL.out)).symm⟩
            case measure => simp [intOf]; omega
          | true =>
            have HL : Hid (ltO dk[a]! dk[q]! = true) := hlv
            clear hlv
            go_wp2_with fail
            refine (less_at14 HY.out.1.srt a q _ _ (by omega) (by omega) (by omega) (by omega)).mono ?_
            rintro e w9 ⟨rfl, hb9⟩
            rw [HL.out]
            have H9 : Hid (SrtD w.heap.size Bs B o n c ty w9 dk ∧ Kpt B w w9) := ⟨HY.out.1.later hb9, HY.out.2.1.trans (Kpt.of hb9)⟩
            clear hb9 f0
            go_wp2
            go_meet
            case rel => exact ⟨q, rfl, by omega, by omega, by show _ = _; rw [← HY.out.2.2]; exact Go.Proofs.scanUp_end _ _ _ _ (Or.inr (by simpa using HL.out)), H9⟩
        · have cc' : ¬ (q : Int) ≤ ((j : Nat) : Int) := by omega
          go_wp2
          go_meet
          case rel => exact ⟨q, rfl, by omega, by omega, by show _ = _; rw [← HY.out.2.2]; exact Go.Proofs.scanUp_end _ _ _ _ (Or.inl cc), HY.out.1, HY.out.2.1⟩
    case rest =>
      obtain ⟨i2, rfl, hi20, hi21, Hi2, HR⟩ := hcut
      go_upto_block 4 with fail
      go_cut [10] from 20 to 56 (fun s wc => ∃ q : Nat, s = .int .i64 q ∧ q ≤ (j) ∧ ((i2) ≤ q + 1 ∨ q = (j)) ∧ Hid (Go.Sort.scanDown (fun x => ltO dk[a]! x) dk (i2) (j) = q) ∧ Hid (SrtD w.heap.size Bs B o n c ty wc dk ∧ Kpt B w wc))
      case first =>
        generalize wc = wo at *
        go_wp2_with fail
        go_loopw [10] (fun v wr => ∃ q : Nat, v = .int .i64 q ∧ q ≤ (j) ∧ ((i2) ≤ q + 1 ∨ q = (j)) ∧ Hid (SrtD w.heap.size Bs B o n c ty wr dk ∧ Kpt B w wr ∧ Go.Sort.scanDown (fun x => ltO dk[a]! x) dk (i2) q = Go.Sort.scanDown (fun x => ltO dk[a]! x) dk (i2) (j))) (fun v _ => (intOf v).toNat)
        case atStart => exact ⟨j, by first | rfl | go_num | (congr 1; omega), by omega, by omega, HR.out.1, HR.out.2, rfl⟩
        case round =>
          obtain ⟨q, rfl, hq0, hq1, HY⟩ := hrel
          have f0 := HY.out.1.f0
          by_cases cc : i2 ≤ q
          · have cc' : ((i2 : Nat) : Int) ≤ (q : Int) := by omega
            cases hlv : ltO dk[a]! dk[q]! with
            | true =>
              have HL : Hid (ltO dk[a]! dk[q]! = true) := hlv
              clear hlv
              go_wp2_with fail
              refine (less_at14 HY.out.1.srt a q _ _ (by omega) (by omega) (by omega) (by omega)).mono ?_
              rintro e w9 ⟨rfl, hb9⟩
              rw [HL.out]
              have H9 : Hid (SrtD w.heap.size Bs B o n c ty w9 dk ∧ Kpt B w w9) := ⟨HY.out.1.later hb9, HY.out.2.1.trans (Kpt.of hb9)⟩
              clear hb9 f0
              go_wp2
              go_roundw
              case rel => exact ⟨q - 1, by first | go_num | (congr 1; omega), by omega, by omega, H9.out.1, H9.out.2, by rw [← HY.out.2.2]; exact (Go.Proofs.scanDown_go _ _ _ _ cc (by omega) (by simpa using HL.out)).symm⟩
              case measure => simp [intOf]; omega
            | false =>
              have HL : Hid (ltO dk[a]! dk[q]! = false) := hlv
              clear hlv
              go_wp2_with fail
              refine (less_at14 HY.out.1.srt a q _ _ (by omega) (by omega) (by omega) (by omega)).mono ?_
              rintro e w9 ⟨rfl, hb9⟩
              rw [HL.out]
              have H9 : Hid (SrtD w.heap.size Bs B o n c ty w9 dk ∧ Kpt B w w9) := ⟨HY.out.1.later hb9, HY.out.2.1.trans (Kpt.of hb9)⟩
              clear hb9 f0
              go_wp2
              go_meet
              case rel => exact ⟨q, rfl, by omega, by omega, by show _ = _; rw [← HY.out.2.2]; exact Go.Proofs.scanDown_end _ _ _ _ (Or.inr (by simpa using HL.out)), H9⟩
          · have cc' : ¬ ((i2 : Nat) : Int) ≤ (q : Int) := by omega
            go_wp2
            go_meet
            case rel => exact ⟨q, rfl, by omega, by omega, by show _ = _; rw [← HY.out.2.2]; exact Go.Proofs.scanDown_end _ _ _ _ (Or.inl cc), HY.out.1, HY.out.2.1⟩
      case rest =>
        obtain ⟨j2, rfl, hj20, hj21, Hj2, HR⟩ := hcut
        by_cases c2 : j2 < i2
        · have c2' : (i2 : Int) > j2 := by omega
          have HP : Hid (Go.Sort.partitionEqual ltO d a b p = (i2, dk)) := by show _ = _; unfold Go.Sort.partitionEqual; rw [← HL.out, loopE_end Hi2.out Hj2.out c2]
          go_wp2
          go_ret
          exact ⟨by rw [HP.out]; rfl, by rw [HP.out]; exact ⟨HR.out.1.srt, HR.out.2⟩⟩
        · have c2' : ¬ (i2 : Int) > j2 := by omega
          have f1 := HR.out.1.f1
          go_wp2_with fail
          obtain ⟨w5, hs, h5, k5⟩ := HR.out.1.swap i2 j2 i2 j2 rfl rfl (by omega) (by omega)
          rw [hs, Oper.upon_value]
          have HE : Hid (SrtD w.heap.size Bs B o n c ty w5 (swp dk i2 j2) ∧ Kpt B w w5 ∧ Go.Sort.partEqLoop ltO a (i2 + 1) (j2 - 1) (swp dk i2 j2) = Go.Sort.partEqLoop ltO a (a + 1) (b - 1) (swp d a p)) := ⟨h5, HR.out.2.trans k5, by rw [← HL.out, loopE_go Hi2.out Hj2.out c2]⟩
          clear hs h5 k5 f1
          go_wp2
          go_roundw
          case rel => exact ⟨i2 + 1, j2 - 1, _, by go_num, by congr 1; omega, by omega, by omega, by omega, by omega, HE⟩
          case measure => simp [intOf]; omega
end Go.Proofs.Ytcdkocdjbpebpaa
