/- The library's sort, whole. -/
import Derived.Test.YtcdkocdjbpebpaaN12
import Derived.Sort.AssemblyPlain
namespace Go.Proofs.Ytcdkocdjbpebpaa
open Go.RowKit Go.Shelf
open Go.Sort (SWO swp HoldsK putRowK PermIn SortedIn)

/-- What is kept from round to round: with what is left sorted all is. -/
structure PdqR (Bd Bs B o n c : Nat) (ty : Value) (w : World) (a b : Nat) (d : Array (Int × Int × Int)) (wr : World) (x y : Nat) (dk : Array (Int × Int × Int)) : Prop where
  srt : SrtD Bd Bs B o n c ty wr dk
  kpt : Kpt B w wr
  low : Go.Sort.Below ltO x y dk
  all : ∀ R, PermIn x y dk R → SortedIn ltO x y R → PermIn a b d R ∧ SortedIn ltO a b R
def PdqE (Bs B o n c : Nat) (ty : Value) (a b : Nat) (d : Array (Int × Int × Int)) (w : World) (e : Ending) (w' : World) : Prop :=
  ∃ d', e = .returned (.tuple #[]) ∧ Srt Bs B o n c ty w' d' ∧ Kpt B w w' ∧ PermIn a b d d' ∧ SortedIn ltO a b d'
theorem PdqR.step {Bd Bs B o n c : Nat} {ty : Value} {w : World} {a b : Nat} {d : Array (Int × Int × Int)} {wr w' : World} {x y : Nat} {dk d' : Array (Int × Int × Int)} (h : PdqR Bd Bs B o n c ty w a b d wr x y dk)
    (hs : Srt Bs B o n c ty w' d') (hk : Kpt B wr w') (hp : PermIn x y dk d') (hb : y ≤ n) : PdqR Bd Bs B o n c ty w a b d w' x y d' :=
  ⟨h.srt.kpt hs hk, h.kpt.trans hk, h.low.perm (by rw [h.srt.srt.size]; exact hb) hp, fun R r1 r2 => h.all R (Go.Sort.permIn_trans _ _ _ _ _ hp r1) r2⟩
theorem PdqR.later {Bd Bs B o n c : Nat} {ty : Value} {w : World} {a b : Nat} {d : Array (Int × Int × Int)} {wr w' : World} {x y : Nat} {dk : Array (Int × Int × Int)} (h : PdqR Bd Bs B o n c ty w a b d wr x y dk)
    (hb : Below wr.heap.size wr w') : PdqR Bd Bs B o n c ty w a b d w' x y dk := ⟨h.srt.later hb, h.kpt.trans (Kpt.of hb), h.low, h.all⟩
theorem PdqR.done {Bd Bs B o n c : Nat} {ty : Value} {w : World} {a b : Nat} {d : Array (Int × Int × Int)} {wr w' : World} {x y : Nat} {dk d' : Array (Int × Int × Int)} (h : PdqR Bd Bs B o n c ty w a b d wr x y dk)
    (hs : Srt Bs B o n c ty w' d') (hk : Kpt B wr w') (hp : PermIn x y dk d') (ho : SortedIn ltO x y d') : PdqE Bs B o n c ty a b d w (.returned (.tuple #[])) w' :=
  ⟨d', rfl, hs, h.kpt.trans hk, h.all d' hp ho⟩

def PdqAll (Bs B o n c : Nat) (ty : Value) (N : Nat) : Prop := ∀ {w : World} {d : Array (Int × Int × Int)}, Srt Bs B o n c ty w d → ∀ (a b lim : Nat), b - a < N → a ≤ b → b ≤ n → Go.Sort.Below ltO a b d → lim ≤ 100 →
    Calls Try.prog 47 #[.agg #[.func (.func 30) #[] #[.pointer (some ⟨Bs, 0, none⟩)], .func (.func 63) #[] #[.slice (some ⟨B, o, none⟩) n c, ty]], .int .i64 a, .int .i64 b, .int .i64 lim] w (PdqE Bs B o n c ty a b d w)

set_option maxHeartbeats 8000000 in
set_option maxRecDepth 100000 in
theorem pdq14_step {Bs B o n c : Nat} {ty : Value} (N : Nat) (ih : PdqAll Bs B o n c ty N) : PdqAll Bs B o n c ty (N + 1) := by
    intro w d h a b lim hN hab hb hlow hlim
    have hD := SrtD.new h
    have HK0 : Hid (Kpt B w (w.alloc (.cells #[.func (.func 30) #[] #[.pointer (some ⟨Bs, 0, none⟩)], .func (.func 63) #[] #[.slice (some ⟨B, o, none⟩) n c, ty]] 82))) := Kpt.of ((Below.refl _ _).alloc (Nat.le_refl _) _)
    have HB : Hid (Go.Sort.Below ltO a b d) := hlow
    have hsm := h.small
    clear h hlow
    go_enter Try.func47, Try.ntmps47
    go_wp2_with fail
    generalize w.alloc (.cells #[.func (.func 30) #[] #[.pointer (some ⟨Bs, 0, none⟩)], .func (.func 63) #[] #[.slice (some ⟨B, o, none⟩) n c, ty]] 82) = W at *
    go_loopw [1, 2, 3, 8, 9] (fun va vb vl v8 v9 wr => ∃ (a' b' lim' : Nat) (wb wp : Bool) (dk : Array (Int × Int × Int)), va = .int .i64 a' ∧ vb = .int .i64 b' ∧ vl = .int .i64 lim' ∧ v8 = .bool wb ∧ v9 = .bool wp ∧ a' ≤ b' ∧ a ≤ a' ∧ b' ≤ b ∧ lim' ≤ 100 ∧ Hid (PdqR w.heap.size Bs B o n c ty w a b d wr a' b' dk)) (fun va vb _ _ _ _ => (intOf vb - intOf va).toNat)
    case atStart => exact ⟨a, b, lim, true, true, d, rfl, rfl, rfl, rfl, rfl, by omega, by omega, by omega, hlim, hD, HK0.out, HB.out, fun R r1 r2 => ⟨r1, r2⟩⟩
    case round =>
      obtain ⟨a', b', lim', wb, wp, dk, rfl, rfl, rfl, rfl, rfl, hab', ha', hb', hlm, HR⟩ := hrel
      clear hD HK0 HB hlim hab
      have f0 := HR.out.srt.f0
      have f1 := HR.out.srt.f1
      by_cases c12 : b' - a' ≤ 12
      · have c12' : ((b' : Int) - a' ≤ 12) := by omega
        go_wp2_with fail
        refine (ins14_any HR.out.srt.srt a' b' (by omega) (by omega)).mono ?_
        rintro e w3 ⟨rfl, h3, k3⟩
        have HE : Hid (PdqE Bs B o n c ty a b d w (.returned (.tuple #[])) w3) := by
          have := Go.Sort.insertionSort_holds swo_ltO dk a' b' (by omega) (by rw [HR.out.srt.srt.size]; omega)
          exact HR.out.done h3 k3 this.1 this.2
        clear h3 k3 f0 f1 ih
        go_wp2
        (try simp only [Exit.inBlock, Exit.then])
        refine bodyPost_ret (results_none rfl _ _ _) rfl ?_
        exact HE.out
      · have c12' : ¬ ((b' : Int) - a' ≤ 12) := by omega
        by_cases cl0 : lim' = 0
        · subst cl0
          go_wp2_with fail
          refine (heap14_any HR.out.srt.srt a' b' (by omega) (by omega)).mono ?_
          rintro e w3 ⟨rfl, h3, k3⟩
          have HE : Hid (PdqE Bs B o n c ty a b d w (.returned (.tuple #[])) w3) := by
            have := Go.Sort.heapSort_holds swo_ltO dk a' b' (by omega) (by rw [HR.out.srt.srt.size]; omega)
            exact HR.out.done h3 k3 this.1 this.2
          clear h3 k3 f0 f1 ih
          go_wp2
          (try simp only [Exit.inBlock, Exit.then])
          refine bodyPost_ret (results_none rfl _ _ _) rfl ?_
          exact HE.out
        · have cl0' : ((lim' : Int) == 0) = false := by simpa using cl0
          go_upto_if 35 with fail
          go_cut [3] from 19 to 129 (fun s3 wc => ∃ (lim' : Nat) (dk : Array (Int × Int × Int)), s3 = .int .i64 lim' ∧ lim' ≤ 100 ∧ Hid (PdqR w.heap.size Bs B o n c ty w a b d wc a' b' dk))
          case first =>
            cases wb
            · go_wp2_with fail
              refine (brk14_any HR.out.srt.srt a' b' (by omega) (by omega)).mono ?_
              rintro e w3 ⟨d3, rfl, h3, k3, p3⟩
              have H3 : Hid (PdqR w.heap.size Bs B o n c ty w a b d w3 a' b' d3) := HR.out.step h3 k3 p3 (by omega)
              clear h3 k3 p3 f0 f1 ih
              go_wp2
              go_meet
              case rel => exact ⟨lim' - 1, d3, by congr 1; omega, by omega, H3⟩
            · go_wp2
              go_meet
              case rel => exact ⟨lim', dk, rfl, hlm, HR⟩
          case rest =>
            clear hlm f0 f1 HR cl0 cl0'
            obtain ⟨lim', dk, rfl, hlm, HR⟩ := hcut
            have f0 := HR.out.srt.f0
            have f1 := HR.out.srt.f1
            generalize wc = w2 at *
            go_upto_if 50 with (first | (go_at_call 69; refine (cho14_any HR.out.srt.srt a' b' (by omega) (by omega)).mono ?_; rintro e w3 ⟨p, hint, rfl, hp0, hp1, hh, hk3⟩))
            replace f0 := cell_later hk3 f0
            replace f1 := cell_later hk3 f1
            have HS : Hid (PdqR w.heap.size Bs B o n c ty w a b d w3 a' b' dk) := HR.out.later hk3
            clear HR hk3
            go_cut [11, 12] from 19 to 129 (fun s11 s12 wc => ∃ (p : Nat) (hint : Int) (dk : Array (Int × Int × Int)), s11 = .int .i64 p ∧ s12 = .int .i64 hint ∧ a' ≤ p ∧ p < b' ∧ (hint = 0 ∨ hint = 1) ∧ Hid (PdqR w.heap.size Bs B o n c ty w a b d wc a' b' dk))
            case first =>
              rcases hh with rfl | rfl | rfl
              · go_wp2
                go_meet
                case rel => exact ⟨p, 0, dk, rfl, rfl, hp0, hp1, by omega, HS⟩
              · go_wp2
                go_meet
                case rel => exact ⟨p, 1, dk, rfl, rfl, hp0, hp1, by omega, HS⟩
              · go_wp2_with fail
                refine (rev14_any HS.out.srt.srt a' b' (by omega) (by omega)).mono ?_
                rintro e w4 ⟨rfl, h4, k4⟩
                have H4 : Hid (PdqR w.heap.size Bs B o n c ty w a b d w4 a' b' (Go.Sort.reverseRange dk a' b')) := HS.out.step h4 k4 (Go.Sort.reverseRange_holds dk a' b' (by omega) (by rw [HS.out.srt.srt.size]; omega)) (by omega)
                clear h4 k4 f0 f1 ih
                go_wp2
                go_meet
                case rel => exact ⟨b' - 1 - (p - a'), 1, _, by congr 1; omega, rfl, by omega, by omega, by omega, H4⟩
            case rest =>
              clear hp0 hp1 hh f0 f1 HS
              obtain ⟨p, hint, dk, rfl, rfl, hp0, hp1, hh, HS⟩ := hcut
              have f0 := HS.out.srt.f0
              have f1 := HS.out.srt.f1
              generalize wc = w4 at *
              go_upto_region 16 with fail
              go_cut [68] from 19 to 129 (fun s68 wc => ∃ q : Bool, s68 = .bool q ∧ Hid (PdqR w.heap.size Bs B o n c ty w a b d wc a' b' dk))
              case first =>
                rcases hh with rfl | rfl <;> cases wb <;> cases wp
                all_goals
                  go_wp2
                  go_meet
                  case rel => exact ⟨_, rfl, HS⟩
              case rest =>
                clear f0 f1 HS hh
                obtain ⟨q, rfl, HT⟩ := hcut
                have f0 := HT.out.srt.f0
                have f1 := HT.out.srt.f1
                generalize wc = w5 at *
                go_upto_if 68 with fail
                go_cut [13] from 19 to 129 (fun _ wc => ∃ dv : Array (Int × Int × Int), Hid (PdqR w.heap.size Bs B o n c ty w a b d wc a' b' dv))
                case first =>
                  cases q
                  · go_wp2
                    go_meet
                    case rel => exact ⟨dk, HT⟩
                  · go_wp2_with fail
                    refine (pins14_any HT.out.srt.srt a' b' (by omega) (by omega)).mono ?_
                    rintro e w6 ⟨rfl, h6, k6⟩
                    have hp6 := Go.Sort.partialInsertionSort_holds swo_ltO dk a' b' (by omega) (by rw [HT.out.srt.srt.size]; omega) HT.out.low
                    generalize (Go.Sort.partialInsertionSort ltO dk a' b').1 = d6 at *
                    generalize (Go.Sort.partialInsertionSort ltO dk a' b').2 = z at *
                    cases z
                    · have H6 : Hid (PdqR w.heap.size Bs B o n c ty w a b d w6 a' b' d6) := HT.out.step h6 k6 hp6.1 (by omega)
                      clear h6 k6 hp6 f0 f1 ih
                      go_wp2
                      go_meet
                      case rel => exact ⟨d6, H6⟩
                    · have HE : Hid (PdqE Bs B o n c ty a b d w (.returned (.tuple #[])) w6) := HT.out.done h6 k6 hp6.1 (hp6.2 rfl)
                      clear h6 k6 hp6 f0 f1 ih
                      go_wp2
                      (try simp only [Exit.inBlock, Exit.then])
                      refine bodyPost_ret (results_none rfl _ _ _) rfl ?_
                      exact HE.out
                case rest =>
                  clear f0 f1 HT
                  obtain ⟨dv, HV⟩ := hcut
                  have f0 := HV.out.srt.f0
                  have f1 := HV.out.srt.f1
                  generalize wc = w6 at *
                  by_cases ca : a' = 0
                  · have HCA : Hid (a' = 0) := ca
                    have ca' : ¬ ((a' : Int) > 0) := by omega
                    have ca0 : ¬ (0 < a') := by omega
                    clear ca
                    go_wp2_with fail
                    refine (part14_any HV.out.srt.srt a' b' p (by omega) (by omega) (by omega)).mono ?_
                    rintro e w7 ⟨rfl, h7, k7⟩
                    have HG := Go.Sort.round_part swo_ltO (Go.Sort.partition_holds _) (show a' ≤ p by omega) (show p < b' by omega) (show b' ≤ dv.size by rw [HV.out.srt.srt.size]; omega) HV.out.low (show Go.Sort.partition ltO dv a' b' p = ((Go.Sort.partition ltO dv a' b' p).1, (Go.Sort.partition ltO dv a' b' p).2.1, (Go.Sort.partition ltO dv a' b' p).2.2) from rfl)
                    have H7 : Hid (SrtD w.heap.size Bs B o n c ty w7 (Go.Sort.partition ltO dv a' b' p).2.2 ∧ Kpt B w w7) := ⟨HV.out.srt.kpt h7 k7, HV.out.kpt.trans k7⟩
                    clear h7 k7
                    generalize (Go.Sort.partition ltO dv a' b' p).1 = mid at *
                    generalize (Go.Sort.partition ltO dv a' b' p).2.1 = al at *
                    generalize (Go.Sort.partition ltO dv a' b' p).2.2 = d7 at *
                    obtain ⟨hm0, hm1, hds, hBl, hBr, hL, hR⟩ := HG
                    have HBl : Hid (Go.Sort.Below ltO a' mid d7 ∧ Go.Sort.Below ltO (mid + 1) b' d7) := ⟨hBl, hBr⟩
                    have HLR : Hid (_ ∧ _) := ⟨hL, hR⟩
                    clear hBl hBr hL hR hds
                    replace f0 := H7.out.1.f0
                    replace f1 := H7.out.1.f1
                    by_cases cl : mid - a' < b' - mid
                    · have cl' : ((mid : Int) - a' < (b' : Int) - mid) := by omega
                      go_wp2_with fail
                      refine (ih H7.out.1.srt a' mid lim' (by omega) (by omega) (by omega) HBl.out.1 (by omega)).mono ?_
                      rintro e w8 ⟨d8, rfl, h8, k8, p8, s8⟩
                      have HZ := HLR.out.1 d8 p8 s8
                      have H8 : Hid (PdqR w.heap.size Bs B o n c ty w a b d w8 (mid + 1) b' d8) := ⟨H7.out.1.kpt h8 k8, H7.out.2.trans k8, HZ.1, fun R r1 r2 => by have := HZ.2 R r1 r2; exact HV.out.all R this.1 this.2⟩
                      clear h8 k8 p8 s8 HZ HLR f0 f1
                      go_wp2
                      go_roundw
                      case rel => exact ⟨mid + 1, b', lim', _, _, _, by first | rfl | go_num, rfl, rfl, rfl, rfl, by omega, by omega, by omega, by omega, H8⟩
                      case measure => simp [intOf]; omega
                    · have cl' : ¬ ((mid : Int) - a' < (b' : Int) - mid) := by omega
                      go_wp2_with fail
                      rw [show (mid : Int) + 1 = ((mid + 1 : Nat) : Int) by omega]
                      refine (ih H7.out.1.srt (mid + 1) b' lim' (by omega) (by omega) (by omega) HBl.out.2 (by omega)).mono ?_
                      rintro e w8 ⟨d8, rfl, h8, k8, p8, s8⟩
                      have HZ := HLR.out.2 d8 p8 s8
                      have H8 : Hid (PdqR w.heap.size Bs B o n c ty w a b d w8 a' mid d8) := ⟨H7.out.1.kpt h8 k8, H7.out.2.trans k8, HZ.1, fun R r1 r2 => by have := HZ.2 R r1 r2; exact HV.out.all R this.1 this.2⟩
                      clear h8 k8 p8 s8 HZ HLR f0 f1
                      go_wp2
                      go_roundw
                      case rel => exact ⟨a', mid, lim', _, _, _, by first | rfl | go_num, rfl, rfl, rfl, rfl, by omega, by omega, by omega, by omega, H8⟩
                      case measure => simp [intOf]; omega
                  · have ca' : ((a' : Int) > 0) := by omega
                    have ca0 : 0 < a' := by omega
                    clear ca
                    cases hlv : ltO dv[a' - 1]! dv[p]! with
                    | true =>
                      have HLv : Hid (ltO dv[a' - 1]! dv[p]! = true) := hlv
                      clear hlv
                      go_wp2_with fail
                      refine (less_at14 HV.out.srt.srt (a' - 1) p _ _ (by omega) (by omega) (by omega) (by omega)).mono ?_
                      rintro e w9 ⟨rfl, hb9⟩
                      rw [HLv.out]
                      replace HV : Hid (PdqR w.heap.size Bs B o n c ty w a b d w9 a' b' dv) := HV.out.later hb9
                      clear hb9 f0 f1
                      have f0 := HV.out.srt.f0
                      have f1 := HV.out.srt.f1
                      go_wp2_with fail
                      refine (part14_any HV.out.srt.srt a' b' p (by omega) (by omega) (by omega)).mono ?_
                      rintro e w7 ⟨rfl, h7, k7⟩
                      have HG := Go.Sort.round_part swo_ltO (Go.Sort.partition_holds _) (show a' ≤ p by omega) (show p < b' by omega) (show b' ≤ dv.size by rw [HV.out.srt.srt.size]; omega) HV.out.low (show Go.Sort.partition ltO dv a' b' p = ((Go.Sort.partition ltO dv a' b' p).1, (Go.Sort.partition ltO dv a' b' p).2.1, (Go.Sort.partition ltO dv a' b' p).2.2) from rfl)
                      have H7 : Hid (SrtD w.heap.size Bs B o n c ty w7 (Go.Sort.partition ltO dv a' b' p).2.2 ∧ Kpt B w w7) := ⟨HV.out.srt.kpt h7 k7, HV.out.kpt.trans k7⟩
                      clear h7 k7
                      generalize (Go.Sort.partition ltO dv a' b' p).1 = mid at *
                      generalize (Go.Sort.partition ltO dv a' b' p).2.1 = al at *
                      generalize (Go.Sort.partition ltO dv a' b' p).2.2 = d7 at *
                      obtain ⟨hm0, hm1, hds, hBl, hBr, hL, hR⟩ := HG
                      have HBl : Hid (Go.Sort.Below ltO a' mid d7 ∧ Go.Sort.Below ltO (mid + 1) b' d7) := ⟨hBl, hBr⟩
                      have HLR : Hid (_ ∧ _) := ⟨hL, hR⟩
                      clear hBl hBr hL hR hds
                      replace f0 := H7.out.1.f0
                      replace f1 := H7.out.1.f1
                      by_cases cl : mid - a' < b' - mid
                      · have cl' : ((mid : Int) - a' < (b' : Int) - mid) := by omega
                        go_wp2_with fail
                        refine (ih H7.out.1.srt a' mid lim' (by omega) (by omega) (by omega) HBl.out.1 (by omega)).mono ?_
                        rintro e w8 ⟨d8, rfl, h8, k8, p8, s8⟩
                        have HZ := HLR.out.1 d8 p8 s8
                        have H8 : Hid (PdqR w.heap.size Bs B o n c ty w a b d w8 (mid + 1) b' d8) := ⟨H7.out.1.kpt h8 k8, H7.out.2.trans k8, HZ.1, fun R r1 r2 => by have := HZ.2 R r1 r2; exact HV.out.all R this.1 this.2⟩
                        clear h8 k8 p8 s8 HZ HLR f0 f1
                        go_wp2
                        go_roundw
                        case rel => exact ⟨mid + 1, b', lim', _, _, _, by first | rfl | go_num, rfl, rfl, rfl, rfl, by omega, by omega, by omega, by omega, H8⟩
                        case measure => simp [intOf]; omega
                      · have cl' : ¬ ((mid : Int) - a' < (b' : Int) - mid) := by omega
                        go_wp2_with fail
                        rw [show (mid : Int) + 1 = ((mid + 1 : Nat) : Int) by omega]
                        refine (ih H7.out.1.srt (mid + 1) b' lim' (by omega) (by omega) (by omega) HBl.out.2 (by omega)).mono ?_
                        rintro e w8 ⟨d8, rfl, h8, k8, p8, s8⟩
                        have HZ := HLR.out.2 d8 p8 s8
                        have H8 : Hid (PdqR w.heap.size Bs B o n c ty w a b d w8 a' mid d8) := ⟨H7.out.1.kpt h8 k8, H7.out.2.trans k8, HZ.1, fun R r1 r2 => by have := HZ.2 R r1 r2; exact HV.out.all R this.1 this.2⟩
                        clear h8 k8 p8 s8 HZ HLR f0 f1
                        go_wp2
                        go_roundw
                        case rel => exact ⟨a', mid, lim', _, _, _, by first | rfl | go_num, rfl, rfl, rfl, rfl, by omega, by omega, by omega, by omega, H8⟩
                        case measure => simp [intOf]; omega
                    | false =>
                      have HLv : Hid (ltO dv[a' - 1]! dv[p]! = false) := hlv
                      clear hlv
                      go_wp2_with fail
                      refine (less_at14 HV.out.srt.srt (a' - 1) p _ _ (by omega) (by omega) (by omega) (by omega)).mono ?_
                      rintro e w9 ⟨rfl, hb9⟩
                      rw [HLv.out]
                      replace HV : Hid (PdqR w.heap.size Bs B o n c ty w a b d w9 a' b' dv) := HV.out.later hb9
                      clear hb9 f0 f1
                      have f0 := HV.out.srt.f0
                      have f1 := HV.out.srt.f1
                      go_wp2_with fail
                      refine (parteq14_any HV.out.srt.srt a' b' p (by omega) (by omega) (by omega)).mono ?_
                      rintro e w7 ⟨rfl, h7, k7⟩
                      have HG := Go.Sort.round_eq swo_ltO (Go.Sort.partitionEqual_holds _) (show 0 < a' by omega) (show a' ≤ p by omega) (show p < b' by omega) (show b' ≤ dv.size by rw [HV.out.srt.srt.size]; omega) HV.out.low HLv.out (show Go.Sort.partitionEqual ltO dv a' b' p = ((Go.Sort.partitionEqual ltO dv a' b' p).1, (Go.Sort.partitionEqual ltO dv a' b' p).2) from rfl)
                      generalize (Go.Sort.partitionEqual ltO dv a' b' p).1 = mid at *
                      generalize (Go.Sort.partitionEqual ltO dv a' b' p).2 = d7 at *
                      obtain ⟨hm0, hm1, hds, hBl, hR⟩ := HG
                      have H8 : Hid (PdqR w.heap.size Bs B o n c ty w a b d w7 mid b' d7) := ⟨HV.out.srt.kpt h7 k7, HV.out.kpt.trans k7, hBl, fun R r1 r2 => by have := hR R r1 r2; exact HV.out.all R this.1 this.2⟩
                      clear h7 k7 hds hBl hR f0 f1 ih
                      go_wp2
                      go_roundw
                      case rel => exact ⟨mid, b', lim', _, _, _, by first | rfl | go_num, rfl, rfl, rfl, rfl, by omega, by omega, by omega, by omega, H8⟩
                      case measure => simp [intOf]; omega
end Go.Proofs.Ytcdkocdjbpebpaa
