/- The library's sort: the two functions that it carries; the insertion sort. -/
import Derived.Test.YtcdkocdjbpebpaaN3
namespace Go.Proofs.Ytcdkocdjbpebpaa
open Go.RowKit
open Go.Sort (SWO swp HoldsK putRowK PermIn SortedIn)

/-- The row, and the block Bd that holds the two functions. -/
structure SrtD (Bd Bs B o n c : Nat) (ty : Value) (w : World) (d : Array (Int × Int × Int)) : Prop where
  srt : Srt Bs B o n c ty w d
  f0 : w.cell? ⟨Bd, 0, none⟩ = some (.func (.func 30) #[] #[.pointer (some ⟨Bs, 0, none⟩)])
  f1 : w.cell? ⟨Bd, 1, none⟩ = some (.func (.func 63) #[] #[.slice (some ⟨B, o, none⟩) n c, ty])
  far : Bd ≠ B
theorem SrtD.later {Bd Bs B o n c : Nat} {ty : Value} {w w' : World} {d : Array (Int × Int × Int)} (h : SrtD Bd Bs B o n c ty w d) (hb : Below w.heap.size w w') : SrtD Bd Bs B o n c ty w' d :=
  ⟨h.srt.later hb, cell_later hb h.f0, cell_later hb h.f1, h.far⟩
theorem SrtD.kpt {Bd Bs B o n c : Nat} {ty : Value} {w w' : World} {d d' : Array (Int × Int × Int)} (h : SrtD Bd Bs B o n c ty w d) (hs : Srt Bs B o n c ty w' d') (hk : Kpt B w w') : SrtD Bd Bs B o n c ty w' d' :=
  ⟨hs, hk.cell h.f0 h.far, hk.cell h.f1 h.far, h.far⟩
theorem SrtD.new {Bs B o n c : Nat} {ty : Value} {w : World} {d : Array (Int × Int × Int)} (h : Srt Bs B o n c ty w d) : SrtD w.heap.size Bs B o n c ty (w.alloc (.cells #[.func (.func 30) #[] #[.pointer (some ⟨Bs, 0, none⟩)], .func (.func 63) #[] #[.slice (some ⟨B, o, none⟩) n c, ty]] 82)) d :=
  ⟨h.later ((Below.refl _ _).alloc (Nat.le_refl _) _), by simp, by simp, fun e => by have := h.lt; omega⟩
theorem SrtD.swap {Bd Bs B o n c : Nat} {ty : Value} {w : World} {d : Array (Int × Int × Int)} (h : SrtD Bd Bs B o n c ty w d) (i j : Nat) (I J : Int) (eI : I = i) (eJ : J = j) (hi : i < n) (hj : j < n) :
    ∃ w', (callFunc 63 #[.int .i64 I, .int .i64 J, .slice (some ⟨B, o, none⟩) n c, ty]).run Try.prog w = .ok (.value (.tuple #[])) w' ∧ SrtD Bd Bs B o n c ty w' (swp d i j) ∧ Kpt B w w' := by
  obtain ⟨w', h1, h2, h3⟩ := swap_at14 h.srt i j I J eI eJ hi hj
  exact ⟨w', h1, h.kpt h2 h3, h3⟩

set_option maxHeartbeats 2000000 in
set_option maxRecDepth 100000 in
theorem ins14_any {Bs B o n c : Nat} {ty : Value} {w : World} {d : Array (Int × Int × Int)} (h : Srt Bs B o n c ty w d) (a b : Nat) (hab : a ≤ b) (hb : b ≤ n) :
    Calls Try.prog 66 #[.agg #[.func (.func 30) #[] #[.pointer (some ⟨Bs, 0, none⟩)], .func (.func 63) #[] #[.slice (some ⟨B, o, none⟩) n c, ty]], .int .i64 a, .int .i64 b] w fun e w' => e = .returned (.tuple #[]) ∧ Srt Bs B o n c ty w' (Go.Sort.insertionSort ltO d a b) ∧ Kpt B w w' := by
  have hD := SrtD.new h
  have HK0 : Hid (Kpt B w (w.alloc (.cells #[.func (.func 30) #[] #[.pointer (some ⟨Bs, 0, none⟩)], .func (.func 63) #[] #[.slice (some ⟨B, o, none⟩) n c, ty]] 82))) := Kpt.of ((Below.refl _ _).alloc (Nat.le_refl _) _)
  have hsm := h.small
  clear h
  go_enter Try.func66, Try.ntmps66
  go_wp2_with fail
  generalize w.alloc (.cells #[.func (.func 30) #[] #[.pointer (some ⟨Bs, 0, none⟩)], .func (.func 63) #[] #[.slice (some ⟨B, o, none⟩) n c, ty]] 82) = W at *
  go_loopw [6] (fun vi wr => ∃ (i : Nat) (dk : Array (Int × Int × Int)), vi = .int .i64 i ∧ a < i ∧ i ≤ b + 1 ∧ Hid (SrtD w.heap.size Bs B o n c ty wr dk ∧ Kpt B W wr ∧ Go.Sort.insOuter ltO a b i dk = Go.Sort.insOuter ltO a b (a + 1) d)) (fun vi _ => b + 1 - (intOf vi).toNat)
  case atStart => exact ⟨a + 1, d, by go_num, by omega, by omega, hD, Kpt.refl _ _, rfl⟩
  case round =>
    obtain ⟨i, dk, rfl, hai, hib, HR⟩ := hrel
    clear hD
    generalize wr = wo at *
    by_cases hl : i < b
    · have hl' : (i : Int) < b := by omega
      go_wp2_with fail
      go_loopw [7] (fun vj wr => ∃ (j : Nat) (dj : Array (Int × Int × Int)), vj = .int .i64 j ∧ a ≤ j ∧ j ≤ i ∧ Hid (SrtD w.heap.size Bs B o n c ty wr dj ∧ Kpt B wo wr ∧ Go.Sort.insInner ltO a j dj = Go.Sort.insInner ltO a i dk)) (fun vj _ => (intOf vj).toNat)
      case atStart => exact ⟨i, dk, rfl, by omega, by omega, HR.out.1, Kpt.refl _ _, rfl⟩
      case round =>
        obtain ⟨j, dj, rfl, haj, hji, HS⟩ := hrel
        have f0 := HS.out.1.f0
        by_cases hja : a < j
        · have hja' : (a : Int) < j := by omega
          have hw1 : IntKind.i64.wrap ((j : Int) - 1) = (j : Int) - 1 := by rw [IntKind.wrap_i64]; omega
          have hlc := less_at14 HS.out.1.srt j (j - 1) j ((j : Int) - 1) rfl (by omega) (by omega) (by omega)
          cases hlv : ltO dj[j]! dj[j - 1]! with
          | true =>
            rw [hlv] at hlc
            have HL : Hid (ltO dj[j]! dj[j - 1]! = true) := hlv
            clear hlv
            go_wp2_with fail
            refine hlc.mono ?_
            rintro e w2 ⟨rfl, hb2⟩
            have f1 := (HS.out.1.later hb2).f1
            go_wp2_with fail
            obtain ⟨w3, hs, h3, k3⟩ := (HS.out.1.later hb2).swap j (j - 1) j ((j : Int) - 1) rfl (by omega) (by omega) (by omega)
            rw [hs, Oper.upon_value]
            have H3 : Hid (SrtD w.heap.size Bs B o n c ty w3 (swp dj j (j - 1)) ∧ Kpt B wo w3 ∧ Go.Sort.insInner ltO a (j - 1) (swp dj j (j - 1)) = Go.Sort.insInner ltO a i dk) :=
              ⟨h3, (HS.out.2.1.trans (Kpt.of hb2)).trans k3, by rw [← HS.out.2.2, Go.Proofs.insInner_go ltO a j dj hja HL.out]⟩
            clear h3 k3 hs hlc f0 f1 hb2
            go_wp2
            go_roundw
            case rel => exact ⟨j - 1, swp dj j (j - 1), by congr 1; omega, by omega, by omega, H3⟩
            case measure => simp [intOf]; omega
          | false =>
            rw [hlv] at hlc
            have HL : Hid (ltO dj[j]! dj[j - 1]! = false) := hlv
            clear hlv
            go_wp2_with fail
            refine hlc.mono ?_
            rintro e w2 ⟨rfl, hb2⟩
            go_wp2
            have H3 : Hid (SrtD w.heap.size Bs B o n c ty w2 dj ∧ Kpt B W w2 ∧ Go.Sort.insOuter ltO a b (i + 1) dj = Go.Sort.insOuter ltO a b (a + 1) d) :=
              ⟨HS.out.1.later hb2, (HR.out.2.1.trans HS.out.2.1).trans (Kpt.of hb2), by rw [← HR.out.2.2, Go.Proofs.insOuter_go ltO a b i dk hl, ← HS.out.2.2, Go.Proofs.insInner_stop ltO a j dj (Or.inr HL.out)]⟩
            clear hlc f0 hb2
            go_roundw
            case rel => exact ⟨i + 1, dj, by go_num, by omega, by omega, H3⟩
            case measure => simp [intOf]; omega
        · have hja' : ¬ (a : Int) < j := by omega
          have H3 : Hid (SrtD w.heap.size Bs B o n c ty wr dj ∧ Kpt B W wr ∧ Go.Sort.insOuter ltO a b (i + 1) dj = Go.Sort.insOuter ltO a b (a + 1) d) :=
            ⟨HS.out.1, HR.out.2.1.trans HS.out.2.1, by rw [← HR.out.2.2, Go.Proofs.insOuter_go ltO a b i dk hl, ← HS.out.2.2, Go.Proofs.insInner_stop ltO a j dj (Or.inl (by omega))]⟩
          go_wp2
          go_roundw
          case rel => exact ⟨i + 1, dj, by go_num, by omega, by omega, H3⟩
          case measure => simp [intOf]; omega
    · have hl' : ¬ (i : Int) < b := by omega
      go_wp2
      go_end0
      exact ⟨rfl, by unfold Go.Sort.insertionSort; rw [← HR.out.2.2, Go.Proofs.insOuter_stop ltO a b i dk hl]; exact HR.out.1.srt, HK0.out.trans HR.out.2.1⟩
end Go.Proofs.Ytcdkocdjbpebpaa
