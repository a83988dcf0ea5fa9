/- Texts that belong together, one behind the other: BB20, BB21, BB22, V1, V5, V9, V16. -/
import Derived.Test.YteklcolphbcjlaaQ15
import Derived.Test.YteklcolphbcjlaaQ1
import Derived.ProofKit
import Derived.OpenShut
import Derived.Carry
import Derived.Lib.SmallJoins
import Derived.Deep.Grids
import Derived.Test.YteklcolphbcjlaaQ5
import Derived.Test.YteklcolphbcjlaaQ3
import Derived.Deep.RegionHeld3
import Derived.Test.YteklcolphbcjlaaQ6
import Derived.Test.YteklcolphbcjlaaRows
import Derived.LaidMore
import Derived.Stop.Joined
import Derived.Test.YteklcolphbcjlaaQ4
import Derived.Maps.AppendAt
import Derived.Laws.AppendOwnNone
import Derived.Deep.SlicePairs
import Derived.SizedLaws
/- Walks of package wire: Get of what is no kind; of all. -/
namespace Go.Proofs.Yteklcolphbcjlaa
open Go.RowKit

theorem ixs_far {k : Int} (h : 5 ≤ k) : ixs k = [] := by
  unfold ixs
  rw [if_neg (by omega), if_neg (by omega), if_neg (by omega), if_neg (by omega), if_neg (by omega)]
set_option maxHeartbeats 8000000 in
set_option maxRecDepth 100000 in
theorem wget16_far (k : Int) (xs : List Int) (v : Value) (w : World) (h : Bys w v xs) (hl : 0 < xs.length) (h0 : xs.getD 0 0 = k) (hk : 5 ≤ k) :
    Calls Try.prog 11 #[v] w (GetE xs w) := by
  have HV : Hid ((∀ y, Below w.heap.size w y → Bys y v xs) ∧ 0 < xs.length ∧ xs.getD 0 0 = k) := ⟨fun y hy => h.later hy, hl, h0⟩
  obtain ⟨a, cap, rfl, h1, h2, h3, h4, h5⟩ := h
  obtain ⟨bb, oo, rfl, h6⟩ := h5 (by intro e; rw [e] at hl; simp at hl)
  have HD : Hid (∀ i, i < xs.length → 0 ≤ xs.getD i 0 ∧ xs.getD i 0 ≤ 255) := h4
  have HB : Hid (Bk ((w.alloc (.cells #[.int .i64 0, .int .i64 0, .int .i64 0, .int .i64 0, .int .i64 0, .int .i64 0, .int .i64 0, .int .i64 0, .int .i64 0, .int .i64 0, .int .i64 0, .int .i64 0, .int .i64 0, .slice none 0 0] 26)).alloc (.cells #[.int .i64 k, .int .i64 0, .int .i64 0, .int .i64 0, .int .i64 0, .int .i64 0, .int .i64 0, .int .i64 0, .int .i64 0, .int .i64 0, .int .i64 0, .int .i64 0, .int .i64 0, .slice none 0 0] 26)) w.heap.size [.int .i64 0, .int .i64 0, .int .i64 0, .int .i64 0, .int .i64 0, .int .i64 0, .int .i64 0, .int .i64 0, .int .i64 0, .int .i64 0, .int .i64 0, .int .i64 0, .int .i64 0, .slice none 0 0] ∧ Bk ((w.alloc (.cells #[.int .i64 0, .int .i64 0, .int .i64 0, .int .i64 0, .int .i64 0, .int .i64 0, .int .i64 0, .int .i64 0, .int .i64 0, .int .i64 0, .int .i64 0, .int .i64 0, .int .i64 0, .slice none 0 0] 26)).alloc (.cells #[.int .i64 k, .int .i64 0, .int .i64 0, .int .i64 0, .int .i64 0, .int .i64 0, .int .i64 0, .int .i64 0, .int .i64 0, .int .i64 0, .int .i64 0, .int .i64 0, .int .i64 0, .slice none 0 0] 26)) (w.heap.size + 1) [.int .i64 k, .int .i64 0, .int .i64 0, .int .i64 0, .int .i64 0, .int .i64 0, .int .i64 0, .int .i64 0, .int .i64 0, .int .i64 0, .int .i64 0, .int .i64 0, .int .i64 0, .slice none 0 0] ∧ Below w.heap.size w ((w.alloc (.cells #[.int .i64 0, .int .i64 0, .int .i64 0, .int .i64 0, .int .i64 0, .int .i64 0, .int .i64 0, .int .i64 0, .int .i64 0, .int .i64 0, .int .i64 0, .int .i64 0, .int .i64 0, .slice none 0 0] 26)).alloc (.cells #[.int .i64 k, .int .i64 0, .int .i64 0, .int .i64 0, .int .i64 0, .int .i64 0, .int .i64 0, .int .i64 0, .int .i64 0, .int .i64 0, .int .i64 0, .int .i64 0, .int .i64 0, .slice none 0 0] 26)) ∧ Below w.heap.size w (w.alloc (.cells #[.int .i64 0, .int .i64 0, .int .i64 0, .int .i64 0, .int .i64 0, .int .i64 0, .int .i64 0, .int .i64 0, .int .i64 0, .int .i64 0, .int .i64 0, .int .i64 0, .int .i64 0, .slice none 0 0] 26))) := ⟨(Bk.new w _ _).later (below_b1 _ _), (by have := Bk.new (w.alloc (.cells #[.int .i64 0, .int .i64 0, .int .i64 0, .int .i64 0, .int .i64 0, .int .i64 0, .int .i64 0, .int .i64 0, .int .i64 0, .int .i64 0, .int .i64 0, .int .i64 0, .int .i64 0, .slice none 0 0] 26)) [.int .i64 k, .int .i64 0, .int .i64 0, .int .i64 0, .int .i64 0, .int .i64 0, .int .i64 0, .int .i64 0, .int .i64 0, .int .i64 0, .int .i64 0, .int .i64 0, .int .i64 0, .slice none 0 0] 26; simp only [World.size_alloc] at this; exact this), below_b2 _ _ _, below_b1 _ _⟩
  have e0 := cell_later HB.out.2.2.2 (h6 0 hl)
  rw [Nat.add_zero, h0] at e0
  have bk := h4 0 hl
  rw [h0] at bk
  have wk : IntKind.i64.wrap k = k := by rw [IntKind.wrap_i64]; omega
  have c0' : ((xs.length : Int) == 0) = false := beq_eq_false_iff_ne.2 (by omega)
  have hln : (0 : Int) < xs.length := by omega
  have h1c : (1 : Int) ≤ cap := by omega
  have h1d : (1 : Int) ≤ xs.length := by omega
  have hs : ((w.alloc (.cells #[.int .i64 0, .int .i64 0, .int .i64 0, .int .i64 0, .int .i64 0, .int .i64 0, .int .i64 0, .int .i64 0, .int .i64 0, .int .i64 0, .int .i64 0, .int .i64 0, .int .i64 0, .slice none 0 0] 26)).alloc (.cells #[.int .i64 k, .int .i64 0, .int .i64 0, .int .i64 0, .int .i64 0, .int .i64 0, .int .i64 0, .int .i64 0, .int .i64 0, .int .i64 0, .int .i64 0, .int .i64 0, .int .i64 0, .slice none 0 0] 26)).heap.size = w.heap.size + 2 := by simp
  have HS : Hid (((w.alloc (.cells #[.int .i64 0, .int .i64 0, .int .i64 0, .int .i64 0, .int .i64 0, .int .i64 0, .int .i64 0, .int .i64 0, .int .i64 0, .int .i64 0, .int .i64 0, .int .i64 0, .int .i64 0, .slice none 0 0] 26)).alloc (.cells #[.int .i64 k, .int .i64 0, .int .i64 0, .int .i64 0, .int .i64 0, .int .i64 0, .int .i64 0, .int .i64 0, .int .i64 0, .int .i64 0, .int .i64 0, .int .i64 0, .int .i64 0, .slice none 0 0] 26)).heap.size = w.heap.size + 2) := hs
  have HK : Hid (5 ≤ k) := hk
  clear h3 h4 h5 h6 h0 hs
  rcases Nat.lt_or_ge 1 cap with hc | hc
  case' inl =>
    have hc' : (1 : Int) < cap := by omega
    have HRV : Hid (∀ y, Below w.heap.size w y → Bys y (.slice (some ⟨bb, oo + 1, none⟩) (xs.length - 1) (cap - 1)) (xs.drop 1)) := fun y hy => (HV.out.1 y hy).rest1 (S := 1) HV.out.2.1 (oo + 1) (fun _ => rfl)
    go_enter Try.func11, Try.ntmps11
    go_wp2_with fail
    generalize hrv : Value.slice (some ⟨bb, oo + 1, none⟩) (xs.length - 1) (cap - 1) = rv at *
  case' inr =>
    obtain rfl : cap = 1 := by omega
    have hl1 : xs.length - 1 = 0 := by omega
    have HRV : Hid (∀ y, Below w.heap.size w y → Bys y (.slice (some ⟨bb, oo, none⟩) 0 0) (xs.drop 1)) := fun y hy => by
      have := (HV.out.1 y hy).rest1 (S := 1) HV.out.2.1 oo (fun h => absurd h (by omega))
      rw [hl1] at this
      exact this
    go_enter Try.func11, Try.ntmps11
    go_wp2_with fail
    generalize hrv : Value.slice (some ⟨bb, oo, none⟩) 0 0 = rv at *
  all_goals
    clear hrv
    generalize ((w.alloc (.cells #[.int .i64 0, .int .i64 0, .int .i64 0, .int .i64 0, .int .i64 0, .int .i64 0, .int .i64 0, .int .i64 0, .int .i64 0, .int .i64 0, .int .i64 0, .int .i64 0, .int .i64 0, .slice none 0 0] 26)).alloc (.cells #[.int .i64 k, .int .i64 0, .int .i64 0, .int .i64 0, .int .i64 0, .int .i64 0, .int .i64 0, .int .i64 0, .int .i64 0, .int .i64 0, .int .i64 0, .int .i64 0, .int .i64 0, .slice none 0 0] 26)) = W at *
    refine (had_any k _).mono ?_
    rintro e w4 ⟨v4, q, rfl, ho4, hw4, hb4⟩
    have HQ : Hid (∀ i, i < 12 → w.heap.size + 1 < q i) := fun i hi => by have := (hw4 i hi).2; have := HS.out; omega
    rw [ixs_far HK.out] at ho4
    have hsl : ∃ a c, v4 = .slice a 0 c := by
      rcases ho4.rd with ⟨_, e⟩ | ⟨g, c, e, _⟩
      · exact ⟨_, _, e⟩
      · exact ⟨_, _, e⟩
    obtain ⟨a4, c4, rfl⟩ := hsl
    have HX : Hid (Bk w4 (w.heap.size + 1) [.int .i64 k, .int .i64 0, .int .i64 0, .int .i64 0, .int .i64 0, .int .i64 0, .int .i64 0, .int .i64 0, .int .i64 0, .int .i64 0, .int .i64 0, .int .i64 0, .int .i64 0, .slice none 0 0] ∧ Bk w4 w.heap.size [.int .i64 0, .int .i64 0, .int .i64 0, .int .i64 0, .int .i64 0, .int .i64 0, .int .i64 0, .int .i64 0, .int .i64 0, .int .i64 0, .int .i64 0, .int .i64 0, .int .i64 0, .slice none 0 0] ∧ Below w.heap.size w w4) := ⟨HB.out.2.1.later hb4, HB.out.1.later hb4, HB.out.2.2.1.trans (hb4.mono HB.out.2.2.1.size)⟩
    have HF : Hid (IsGet xs owZ false) := isGet_far (by rw [HV.out.2.2]; have := HK.out; omega)
    have HM : Hid (omB (zK k) = false) := om_far (by have := HK.out; omega)
    clear ho4 hw4 hb4 e0
    go_wp2_with fail
    go_loopw [5, 24] (fun r iv wr => r = rv ∧ iv = .int .i64 0 ∧ Hid (wr = w4)) (fun _ _ _ => 0)
    case atStart => exact ⟨rfl, by go_num, rfl⟩
    case round =>
      obtain ⟨rfl, rfl, HR⟩ := hrel
      obtain rfl : _ = w4 := HR.out
      have hrv := HRV.out _ HX.out.2.2
      obtain ⟨ar, capr, er, _⟩ := hrv
      subst er
      obtain ⟨n, hn⟩ : ∃ n, (xs.drop 1).length = n := ⟨_, rfl⟩
      rw [hn]
      clear hn HRV
      by_cases hz : n = 0
      · subst hz
        go_wp2_with (refine load_bkG rfl 26 _ rfl (w.heap.size + 1) 0 [.int .i64 k, .int .i64 0, .int .i64 0, .int .i64 0, .int .i64 0, .int .i64 0, .int .i64 0, .int .i64 0, .int .i64 0, .int .i64 0, .int .i64 0, .int .i64 0, .int .i64 0, .slice none 0 0] [.int .i64 k, .int .i64 0, .int .i64 0, .int .i64 0, .int .i64 0, .int .i64 0, .int .i64 0, .int .i64 0, .int .i64 0, .int .i64 0, .int .i64 0, .int .i64 0, .int .i64 0, .slice none 0 0] rfl HX.out.1 rfl _ Try.underlying26 rfl (by kernel_rfl) ?_)
        refine (wmay16_any k 0 0 0 0 0 0 0 0 0 0 0 0 (.slice none 0 0) [] _ (Nums_nil _)).mono ?_
        rintro e w6 ⟨rfl, hb6⟩
        have HR3 : Hid (Bk w6 w.heap.size [.int .i64 0, .int .i64 0, .int .i64 0, .int .i64 0, .int .i64 0, .int .i64 0, .int .i64 0, .int .i64 0, .int .i64 0, .int .i64 0, .int .i64 0, .int .i64 0, .int .i64 0, .slice none 0 0] ∧ Below w.heap.size w w6) := ⟨HX.out.2.1.later hb6, HX.out.2.2.trans (hb6.mono HX.out.2.2.size)⟩
        have hm : omB ⟨k, 0, ⟨0, 0, 0, 0, 0, 0⟩, 0, 0, 0, 0, 0, []⟩ = false := HM.out
        rw [hm]
        clear hb6 hm
        go_wp2_with (refine store_bk rfl 26 _ _ rfl w.heap.size 0 [.int .i64 0, .int .i64 0, .int .i64 0, .int .i64 0, .int .i64 0, .int .i64 0, .int .i64 0, .int .i64 0, .int .i64 0, .int .i64 0, .int .i64 0, .int .i64 0, .int .i64 0, .slice none 0 0] [.int .i64 0, .int .i64 0, .int .i64 0, .int .i64 0, .int .i64 0, .int .i64 0, .int .i64 0, .int .i64 0, .int .i64 0, .int .i64 0, .int .i64 0, .int .i64 0, .int .i64 0, .slice none 0 0] [.int .i64 0, .int .i64 0, .int .i64 0, .int .i64 0, .int .i64 0, .int .i64 0, .int .i64 0, .int .i64 0, .int .i64 0, .int .i64 0, .int .i64 0, .int .i64 0, .int .i64 0, .slice none 0 0] rfl rfl 14 rfl HR3.out.1 (Nat.le_refl _) rfl (by kernel_rfl) one14z ?_; intro w7 h1 h2 h3 h4)
        exact ret_ct (ty := 26) rfl w.heap.size [.int .i64 0, .int .i64 0, .int .i64 0, .int .i64 0, .int .i64 0, .int .i64 0, .int .i64 0, .int .i64 0, .int .i64 0, .int .i64 0, .int .i64 0, .int .i64 0, .int .i64 0, .slice none 0 0] (.bool false) rfl h1 _ Try.underlying26 rfl (by kernel_rfl) rfl rfl (GetE.none (HF.out) (h3 _ _ (Nat.le_refl _) HR3.out.2))
      · have hz' : (0 : Int) < (n : Int) := by omega
        have hz2 : 0 < n := by omega
        clear hz
        go_wp2_with (refine store_bk rfl 26 _ _ rfl w.heap.size 0 [.int .i64 0, .int .i64 0, .int .i64 0, .int .i64 0, .int .i64 0, .int .i64 0, .int .i64 0, .int .i64 0, .int .i64 0, .int .i64 0, .int .i64 0, .int .i64 0, .int .i64 0, .slice none 0 0] [.int .i64 0, .int .i64 0, .int .i64 0, .int .i64 0, .int .i64 0, .int .i64 0, .int .i64 0, .int .i64 0, .int .i64 0, .int .i64 0, .int .i64 0, .int .i64 0, .int .i64 0, .slice none 0 0] [.int .i64 0, .int .i64 0, .int .i64 0, .int .i64 0, .int .i64 0, .int .i64 0, .int .i64 0, .int .i64 0, .int .i64 0, .int .i64 0, .int .i64 0, .int .i64 0, .int .i64 0, .slice none 0 0] rfl rfl 14 rfl HX.out.2.1 (Nat.le_refl _) rfl (by kernel_rfl) one14z ?_; intro w7 h1 h2 h3 h4)
        exact ret_ct (ty := 26) rfl w.heap.size [.int .i64 0, .int .i64 0, .int .i64 0, .int .i64 0, .int .i64 0, .int .i64 0, .int .i64 0, .int .i64 0, .int .i64 0, .int .i64 0, .int .i64 0, .int .i64 0, .int .i64 0, .slice none 0 0] (.bool false) rfl h1 _ Try.underlying26 rfl (by kernel_rfl) rfl rfl (GetE.none (HF.out) (h3 _ _ (Nat.le_refl _) HX.out.2.2))
set_option maxHeartbeats 2000000 in
set_option maxRecDepth 100000 in
theorem wget16_any (xs : List Int) (v : Value) (w : World) (h : Bys w v xs) : Calls Try.prog 11 #[v] w (GetE xs w) := by
  by_cases hl : 0 < xs.length
  · have hb := h.bd 0 hl
    by_cases k3 : xs.getD 0 0 ≤ 3
    · exact wget16_0 _ xs v w h hl rfl ⟨hb.1, k3⟩
    by_cases k4 : xs.getD 0 0 = 4
    · exact wget16_4 xs v w h hl k4
    · exact wget16_far _ xs v w h hl rfl (by omega)
  · obtain ⟨a, cap, rfl, h1, h2, h3, h4, h5⟩ := h
    have HF : Hid (IsGet xs owZ false) := isGet_long (.inl (by omega))
    have c0' : ((xs.length : Int) == 0) = true := beq_iff_eq.2 (by omega)
    have HB : Hid (Bk (w.alloc (.cells #[.int .i64 0, .int .i64 0, .int .i64 0, .int .i64 0, .int .i64 0, .int .i64 0, .int .i64 0, .int .i64 0, .int .i64 0, .int .i64 0, .int .i64 0, .int .i64 0, .int .i64 0, .slice none 0 0] 26)) w.heap.size [.int .i64 0, .int .i64 0, .int .i64 0, .int .i64 0, .int .i64 0, .int .i64 0, .int .i64 0, .int .i64 0, .int .i64 0, .int .i64 0, .int .i64 0, .int .i64 0, .int .i64 0, .slice none 0 0] ∧ Below w.heap.size w (w.alloc (.cells #[.int .i64 0, .int .i64 0, .int .i64 0, .int .i64 0, .int .i64 0, .int .i64 0, .int .i64 0, .int .i64 0, .int .i64 0, .int .i64 0, .int .i64 0, .int .i64 0, .int .i64 0, .slice none 0 0] 26))) := ⟨Bk.new w _ _, below_b1 _ _⟩
    clear h3 h4 h5 hl
    go_enter Try.func11, Try.ntmps11
    go_wp2_with (refine store_bk rfl 26 _ _ rfl w.heap.size 0 [.int .i64 0, .int .i64 0, .int .i64 0, .int .i64 0, .int .i64 0, .int .i64 0, .int .i64 0, .int .i64 0, .int .i64 0, .int .i64 0, .int .i64 0, .int .i64 0, .int .i64 0, .slice none 0 0] [.int .i64 0, .int .i64 0, .int .i64 0, .int .i64 0, .int .i64 0, .int .i64 0, .int .i64 0, .int .i64 0, .int .i64 0, .int .i64 0, .int .i64 0, .int .i64 0, .int .i64 0, .slice none 0 0] [.int .i64 0, .int .i64 0, .int .i64 0, .int .i64 0, .int .i64 0, .int .i64 0, .int .i64 0, .int .i64 0, .int .i64 0, .int .i64 0, .int .i64 0, .int .i64 0, .int .i64 0, .slice none 0 0] rfl rfl 14 rfl HB.out.1 (Nat.le_refl _) rfl (by kernel_rfl) one14z ?_; intro w7 h1 h2 h3 h4)
    exact ret_ct (ty := 26) rfl w.heap.size [.int .i64 0, .int .i64 0, .int .i64 0, .int .i64 0, .int .i64 0, .int .i64 0, .int .i64 0, .int .i64 0, .int .i64 0, .int .i64 0, .int .i64 0, .int .i64 0, .int .i64 0, .slice none 0 0] (.bool false) rfl h1 _ Try.underlying26 rfl (by kernel_rfl) rfl rfl (GetE.none (HF.out) (h3 _ _ (Nat.le_refl _) HB.out.2))
end Go.Proofs.Yteklcolphbcjlaa
/- The chapter's example. -/
namespace Go.Proofs.Yteklcolphbcjlaa
open Go.RowKit

theorem byL {w : World} {v : Value} {xs : List Int} (B : Nat) (h : OwY w B v xs) (hx : ∀ x ∈ xs, 0 ≤ x ∧ x ≤ 255) : Bys w v xs := h.bys fun i hi => by
  rw [List.getD_eq_getElem?_getD, List.getElem?_eq_getElem hi]
  exact hx _ (List.getElem_mem hi)
/-- The bytes of what may be asked are such. -/
theorem put_bys {w : World} {v : Value} {o : Ow} {B : Nat} (h : OwY w B v (bif omB o then obL o else [])) : Bys w v (bif omB o then obL o else []) := byL B h fun x hx => by
  cases c : omB o with
  | true => rw [c] at hx; exact ob_bytes c x hx
  | false => rw [c] at hx; cases hx
def o258 : Ow := ⟨2, 258, ⟨0, 0, 0, 0, 0, 0⟩, 0, 0, 0, 0, 0, []⟩
set_option maxHeartbeats 8000000 in
set_option maxRecDepth 100000 in
theorem awake16_any (w : World) : Calls Try.prog 8 #[] w fun e w' => e = .returned (.bool true) ∧ Below w.heap.size w w' := by
  have HO : Hid (omB o258 = true ∧ obL o258 = [2, 1, 2] ∧ IsGet [2, 1, 2] o258 true) := ⟨rfl, rfl, .inl ⟨rfl, rfl, rfl⟩⟩
  go_enter Try.func8, Try.ntmps8
  go_wp2_with fail
  refine (wput16_any 2 258 0 0 0 0 0 0 0 0 0 0 0 (.slice none 0 0) [] _ (Nums_nil _)).mono ?_
  rintro e w1 ⟨v1, rfl, ho1, hb1⟩
  have hm : omB ⟨2, 258, ⟨0, 0, 0, 0, 0, 0⟩, 0, 0, 0, 0, 0, []⟩ = true := HO.out.1
  rw [hm] at ho1 ⊢
  have HB : Hid (Bys w1 v1 [2, 1, 2] ∧ Below w.heap.size w w1) := ⟨byL _ (xs := [2, 1, 2]) ho1 (fun x hx => by simp at hx; omega), hb1⟩
  clear ho1 hb1 hm
  go_wp2_with fail
  refine (wget16_any [2, 1, 2] v1 _ HB.out.1).mono ?_
  rintro e w2 ⟨pk, pid, fc, ft, fx, fm, fk, fe, pt, pm, pw, pc, pv, dv, ds, y, rfl, hd2, hg2, hb2⟩
  obtain ⟨he, rfl⟩ := hg2.unique HO.out.2.2
  simp only [o258, Ow.mk.injEq, Sp.mk.injEq] at he
  obtain ⟨rfl, rfl, ⟨rfl, rfl, rfl, rfl, rfl, rfl⟩, rfl, rfl, rfl, rfl, rfl, rfl⟩ := he
  obtain ⟨a, zn, cap, rfl⟩ : ∃ a z c, dv = .slice a z c := by obtain ⟨a, c, e, _⟩ := hd2; exact ⟨a, _, c, e⟩
  have HC : Hid (Bys (w2.alloc (.cells #[.int .i64 2, .int .i64 258, .int .i64 0, .int .i64 0, .int .i64 0, .int .i64 0, .int .i64 0, .int .i64 0, .int .i64 0, .int .i64 0, .int .i64 0, .int .i64 0, .int .i64 0, .slice a zn cap] 26)) v1 [2, 1, 2] ∧ Nums (w2.alloc (.cells #[.int .i64 2, .int .i64 258, .int .i64 0, .int .i64 0, .int .i64 0, .int .i64 0, .int .i64 0, .int .i64 0, .int .i64 0, .int .i64 0, .int .i64 0, .int .i64 0, .int .i64 0, .slice a zn cap] 26)) (.slice a zn cap) [] ∧ Bk (w2.alloc (.cells #[.int .i64 2, .int .i64 258, .int .i64 0, .int .i64 0, .int .i64 0, .int .i64 0, .int .i64 0, .int .i64 0, .int .i64 0, .int .i64 0, .int .i64 0, .int .i64 0, .int .i64 0, .slice a zn cap] 26)) w2.heap.size [.int .i64 2, .int .i64 258, .int .i64 0, .int .i64 0, .int .i64 0, .int .i64 0, .int .i64 0, .int .i64 0, .int .i64 0, .int .i64 0, .int .i64 0, .int .i64 0, .int .i64 0, .slice a zn cap] ∧ Below w.heap.size w (w2.alloc (.cells #[.int .i64 2, .int .i64 258, .int .i64 0, .int .i64 0, .int .i64 0, .int .i64 0, .int .i64 0, .int .i64 0, .int .i64 0, .int .i64 0, .int .i64 0, .int .i64 0, .int .i64 0, .slice a zn cap] 26))) := ⟨(HB.out.1.later hb2).later (below_b1 _ _), hd2.later (below_b1 _ _), Bk.new _ _ _, HB.out.2.trans ((hb2.trans (below_b1 _ _ |>.mono hb2.size)).mono HB.out.2.size)⟩
  clear hb2 hd2 hg2 HB
  go_wp2_with fail
  have hz : (w2.alloc (.cells #[.int .i64 2, .int .i64 258, .int .i64 0, .int .i64 0, .int .i64 0, .int .i64 0, .int .i64 0, .int .i64 0, .int .i64 0, .int .i64 0, .int .i64 0, .int .i64 0, .int .i64 0, .slice a zn cap] 26)).heap.size = w2.heap.size + 1 := by simp
  generalize (w2.alloc (.cells #[.int .i64 2, .int .i64 258, .int .i64 0, .int .i64 0, .int .i64 0, .int .i64 0, .int .i64 0, .int .i64 0, .int .i64 0, .int .i64 0, .int .i64 0, .int .i64 0, .int .i64 0, .slice a zn cap] 26)) = W at *
  have HD : Hid (Bys (W.alloc (.cells #[.int .u8 2, .int .u8 1, .int .u8 2] 5)) (.slice (some ⟨w2.heap.size + 1, 0, none⟩) 3 3) [2, 1, 2] ∧ Below W.heap.size W (W.alloc (.cells #[.int .u8 2, .int .u8 1, .int .u8 2] 5))) := ⟨by rw [← hz]; exact byL 0 (World.ownsRow_lit (base := 0) (e := 5) (size := 1) W #[.int .u8 2, .int .u8 1, .int .u8 2] 3 (Nat.zero_le _) (by decide) rfl) (fun x hx => by simp at hx; omega), below_b1 _ _⟩
  refine (bytes_any [2, 1, 2] [2, 1, 2] _ _ _ (HC.out.1.later HD.out.2) HD.out.1 (by decide)).mono ?_
  rintro e w3 ⟨rfl, hb3⟩
  have hb4 := HD.out.2.trans (hb3.mono HD.out.2.size)
  have HE : Hid (Nums w3 (.slice a zn cap) [] ∧ Bk w3 w2.heap.size [.int .i64 2, .int .i64 258, .int .i64 0, .int .i64 0, .int .i64 0, .int .i64 0, .int .i64 0, .int .i64 0, .int .i64 0, .int .i64 0, .int .i64 0, .int .i64 0, .int .i64 0, .slice a zn cap] ∧ Below w.heap.size w w3) := ⟨HC.out.2.1.later hb4, HC.out.2.2.1.later hb4, HC.out.2.2.2.trans (hb4.mono HC.out.2.2.2.size)⟩
  have e1 := HE.out.2.1.cell (i := 1) rfl
  have hs : sameB [2, 1, 2] [2, 1, 2] = true := rfl
  rw [hs]
  clear hb3 hb4 HD HC hz hs
  go_wp2_with (refine load_bkG rfl 26 _ rfl w2.heap.size 0 [.int .i64 2, .int .i64 258, .int .i64 0, .int .i64 0, .int .i64 0, .int .i64 0, .int .i64 0, .int .i64 0, .int .i64 0, .int .i64 0, .int .i64 0, .int .i64 0, .int .i64 0, .slice a zn cap] [.int .i64 2, .int .i64 258, .int .i64 0, .int .i64 0, .int .i64 0, .int .i64 0, .int .i64 0, .int .i64 0, .int .i64 0, .int .i64 0, .int .i64 0, .int .i64 0, .int .i64 0, .slice a zn cap] rfl HE.out.2.1 rfl _ Try.underlying26 rfl (by kernel_rfl) ?_)
  refine (wmay16_any 2 258 0 0 0 0 0 0 0 0 0 0 0 (.slice a zn cap) [] _ HE.out.1).mono ?_
  rintro e w5 ⟨rfl, hb5⟩
  have hm : omB ⟨2, 258, ⟨0, 0, 0, 0, 0, 0⟩, 0, 0, 0, 0, 0, []⟩ = true := HO.out.1
  rw [hm]
  have HF := HE.out.2.2.trans (hb5.mono HE.out.2.2.size)
  clear hm hb5 HE e1
  go_wp2_with fail
  go_ret
  exact ⟨rfl, HF⟩
end Go.Proofs.Yteklcolphbcjlaa
/- What is asked has as many bytes as it needs. -/
namespace Go.Proofs.Yteklcolphbcjlaa
open Go.RowKit

theorem OwY.sl {w : World} {B : Nat} {v : Value} {xs : List Int} (h : OwY w B v xs) : ∃ a c, v = .slice a xs.length c := by
  obtain ⟨_, ⟨rfl, hz⟩ | ⟨g, cap, cur, rfl, _⟩⟩ := h
  · exact ⟨none, 0, by rw [hz]⟩
  · exact ⟨_, cap, rfl⟩
set_option maxHeartbeats 8000000 in
set_option maxRecDepth 100000 in
theorem law_wlong16 (ok oid ec et ex em ek ee ot om ow oc ov : Int) (dv : Value) (ds : List Int) (w : World) (h : Nums w dv ds) :
    Calls Try.prog 7 #[.agg #[.int .i64 ok, .int .i64 oid, .int .i64 ec, .int .i64 et, .int .i64 ex, .int .i64 em, .int .i64 ek, .int .i64 ee, .int .i64 ot, .int .i64 om, .int .i64 ow, .int .i64 oc, .int .i64 ov, dv]] w fun e w' => e = .returned (.bool true) ∧ Below w.heap.size w w' := by
  obtain ⟨a, cap, rfl⟩ : ∃ a c, dv = .slice a ds.length c := by obtain ⟨a, c, e, _⟩ := h; exact ⟨a, c, e⟩
  have HN : Hid (∀ y, Below w.heap.size w y → Nums y (.slice a ds.length cap) ds) := fun y hy => h.later hy
  have HB : Hid (Bk (w.alloc (.cells #[.int .i64 ok, .int .i64 oid, .int .i64 ec, .int .i64 et, .int .i64 ex, .int .i64 em, .int .i64 ek, .int .i64 ee, .int .i64 ot, .int .i64 om, .int .i64 ow, .int .i64 oc, .int .i64 ov, .slice a ds.length cap] 26)) w.heap.size [.int .i64 ok, .int .i64 oid, .int .i64 ec, .int .i64 et, .int .i64 ex, .int .i64 em, .int .i64 ek, .int .i64 ee, .int .i64 ot, .int .i64 om, .int .i64 ow, .int .i64 oc, .int .i64 ov, .slice a ds.length cap] ∧ Below w.heap.size w (w.alloc (.cells #[.int .i64 ok, .int .i64 oid, .int .i64 ec, .int .i64 et, .int .i64 ex, .int .i64 em, .int .i64 ek, .int .i64 ee, .int .i64 ot, .int .i64 om, .int .i64 ow, .int .i64 oc, .int .i64 ov, .slice a ds.length cap] 26))) := ⟨Bk.new w _ _, below_b1 _ _⟩
  clear h
  go_enter Try.func7, Try.ntmps7
  go_wp2_with fail
  refine (awake16_any _).mono ?_
  rintro e w1 ⟨rfl, hb1⟩
  have HC : Hid (Bk w1 w.heap.size [.int .i64 ok, .int .i64 oid, .int .i64 ec, .int .i64 et, .int .i64 ex, .int .i64 em, .int .i64 ek, .int .i64 ee, .int .i64 ot, .int .i64 om, .int .i64 ow, .int .i64 oc, .int .i64 ov, .slice a ds.length cap] ∧ Below w.heap.size w w1) := ⟨HB.out.1.later hb1, HB.out.2.trans (hb1.mono HB.out.2.size)⟩
  clear hb1 HB
  go_wp2_with (refine load_bk rfl 26 _ rfl w.heap.size 0 [.int .i64 ok, .int .i64 oid, .int .i64 ec, .int .i64 et, .int .i64 ex, .int .i64 em, .int .i64 ek, .int .i64 ee, .int .i64 ot, .int .i64 om, .int .i64 ow, .int .i64 oc, .int .i64 ov, .slice a ds.length cap] [.int .i64 ok, .int .i64 oid, .int .i64 ec, .int .i64 et, .int .i64 ex, .int .i64 em, .int .i64 ek, .int .i64 ee, .int .i64 ot, .int .i64 om, .int .i64 ow, .int .i64 oc, .int .i64 ov, .slice a ds.length cap] rfl HC.out.1 rfl _ Try.underlying26 rfl (by kernel_rfl) ?_)
  refine (wput16_any ok oid ec et ex em ek ee ot om ow oc ov (.slice a ds.length cap) ds _ (HN.out _ HC.out.2)).mono ?_
  rintro e w2 ⟨v2, rfl, ho2, hb2⟩
  have HD : Hid (Bk w2 w.heap.size [.int .i64 ok, .int .i64 oid, .int .i64 ec, .int .i64 et, .int .i64 ex, .int .i64 em, .int .i64 ek, .int .i64 ee, .int .i64 ot, .int .i64 om, .int .i64 ow, .int .i64 oc, .int .i64 ov, .slice a ds.length cap] ∧ Below w.heap.size w w2) := ⟨HC.out.1.later hb2, HC.out.2.trans (hb2.mono HC.out.2.size)⟩
  obtain ⟨a2, c2, rfl⟩ := ho2.sl
  clear ho2 hb2 HC
  cases hm : omB ⟨ok, oid, ⟨ec, et, ex, em, ek, ee⟩, ot, om, ow, oc, ov, ds⟩ with
  | false =>
    clear hm
    show _
    go_wp2_with fail
    go_ret
    exact ⟨rfl, HD.out.2⟩
  | true =>
    have hk := om_kind hm
    have hln := ob_len hm
    have HM : Hid (omB ⟨ok, oid, ⟨ec, et, ex, em, ek, ee⟩, ot, om, ow, oc, ov, ds⟩ = true) := hm
    have e0 := HD.out.1.cell (i := 0) rfl
    have e13 := HD.out.1.cell (i := 13) rfl
    clear hm
    show _
    obtain ⟨m, hmm⟩ : ∃ m, (bif true then obL ⟨ok, oid, ⟨ec, et, ex, em, ek, ee⟩, ot, om, ow, oc, ov, ds⟩ else []).length = m := ⟨_, rfl⟩
    rw [hmm]
    have hm2 : m = olN ⟨ok, oid, ⟨ec, et, ex, em, ek, ee⟩, ot, om, ow, oc, ov, ds⟩ := by rw [← hmm]; exact hln
    clear hmm hln
    rcases (show ok = 0 ∨ ok = 1 ∨ ok = 2 ∨ ok = 3 ∨ ok = 4 by have h1 : 0 ≤ ok ∧ ok ≤ 4 := hk; omega) with rfl | rfl | rfl | rfl | rfl
    · obtain rfl : m = 7 := hm2
      go_wp2_with fail
      go_ret
      exact ⟨rfl, HD.out.2⟩
    · obtain rfl : m = 5 := hm2
      go_wp2_with fail
      go_ret
      exact ⟨rfl, HD.out.2⟩
    · obtain rfl : m = 3 := hm2
      go_wp2_with fail
      go_ret
      exact ⟨rfl, HD.out.2⟩
    · obtain rfl : m = 5 := hm2
      go_wp2_with fail
      go_ret
      exact ⟨rfl, HD.out.2⟩
    · obtain rfl : m = 2 + ds.length := hm2
      have hl4 : ds.length ≤ 4 := by
        have := HM.out
        rw [om_4k] at this
        exact of_decide_eq_true (Bool.and_eq_true_iff.1 (Bool.and_eq_true_iff.1 this).1).1
      have wl : IntKind.i64.wrap (2 + (ds.length : Int)) = ((2 + ds.length : Nat) : Int) := by rw [IntKind.wrap_i64]; omega
      go_wp2_with fail
      go_ret
      exact ⟨ret_b (by simp), HD.out.2⟩
end Go.Proofs.Yteklcolphbcjlaa
/- What the arguments of a statement are, as the walks are told of them. -/
namespace Go.Proofs.Yteklcolphbcjlaa
open Go.ChangeShapes Go.WideShapes Go.RowKit Go.Deep Go.Joins

theorem see_int {H : Type} {enc : TypeId × Value → H} {P : Program} {w : World} {base b0 : Nat} {spare : Nat → Bool} {held : Bool} {r : Reach} {t : TypeId} {k : IntKind} {v : Value} {d : DataW H} {p : List MemPlace}
    (ht : P.underlying t = some (.int k)) (hv : Value.okWide P w r b0 t v) (h : DataW.Trod enc P w base spare held t v d p) : ∃ a, v = .int k a ∧ (Lit.int k a).wf = true := by
  obtain ⟨a, h1, _, _, h2⟩ := open_int ht hv h
  exact ⟨a, h1, h2⟩
/-- A struct of two integers. -/
theorem see_ints2 {H : Type} {enc : TypeId × Value → H} {P : Program} {w : World} {base b0 : Nat} {spare : Nat → Bool} {held : Bool} {r : Reach} {t : TypeId} {f0 f1 : Field} {k0 k1 : IntKind} {v : Value} {d : DataW H} {p : List MemPlace}
    (hs : P.underlying t = some (.struct #[f0, f1])) (hone : oneCellFields P #[f0, f1] = true) (hC : P.cellsOf t = 2) (h0 : P.underlying f0.type = some (.int k0)) (h1 : P.underlying f1.type = some (.int k1))
    (hv : Value.okWide P w r b0 t v) (h : DataW.Trod enc P w base spare held t v d p) :
    ∃ a b, v = .agg #[.int k0 a, .int k1 b] ∧ (Lit.int k0 a).wf = true ∧ (Lit.int k1 b).wf = true := by
  obtain ⟨c0, c1, y0, y1, m, rfl, _, _, hy0, hy1⟩ := open_agg2 hs hone hC hv h
  obtain ⟨a, e0, _, wa⟩ := DataW.trod_int h0 hy0
  obtain ⟨b, e1, _, wb⟩ := DataW.trod_int h1 hy1
  simp at e0 e1
  subst e0 e1
  exact ⟨a, b, rfl, wa, wb⟩
end Go.Proofs.Yteklcolphbcjlaa
/- What the arguments of a statement are, as the walks are told of them: descriptions, bytes. -/
namespace Go.Proofs.Yteklcolphbcjlaa
open Go.ChangeShapes Go.WideShapes Go.RowKit Go.Deep Go.Joins
/-- One of a struct's fields, an integer. -/
theorem see_field {H : Type} {enc : TypeId × Value → H} {P : Program} {w : World} {base n : Nat} {spare : Nat → Bool} {held : Bool} {t : TypeId} {k : IntKind} {c : Value} {y : DataW H × List MemPlace} (ht : P.underlying t = some (.int k))
    (h : DataW.trod enc P w base spare held n t [c] = some y) : ∃ a, c = .int k a ∧ (Lit.int k a).wf = true := by
  obtain ⟨a, e, _, wa⟩ := DataW.trod_int ht h
  simp at e
  exact ⟨a, e, wa⟩
/-- Bytes. -/
theorem see_bytes {H : Type} {enc : TypeId × Value → H} {P : Program} {w : World} {base b0 : Nat} {held : Bool} {r : Reach} {t e : TypeId} {v : Value} {d : DataW H} {p : List MemPlace}
    (ht : P.underlying t = some (.slice e)) (he : P.underlying e = some (.int .u8)) (hc : P.cellsOf e = 1) (hv : Value.okWide P w r b0 t v) (h : DataW.Trod enc P w base (fun _ => true) held t v d p) : ∃ ks, Bys w v ks := by
  obtain ⟨a, len, cap, rfl⟩ := okWide_slice ht hv
  obtain ⟨fuel, hf⟩ := h
  rcases open_ints ht he hc hf with ⟨hcs, _⟩ | ⟨x, l, c, zs, hcs, _, hl, hm, hz, _, hcell, hwf⟩
  · simp [Value.cells] at hcs
    obtain ⟨rfl, rfl, rfl⟩ := hcs
    exact ⟨[], Bys.none w⟩
  · simp [Value.cells] at hcs
    obtain ⟨rfl, rfl, rfl⟩ := hcs
    simp only [if_true] at hz
    have hlen : (zs.take len).length = len := by simp; omega
    refine ⟨zs.take len, some x, cap, by rw [hlen], by omega, hm, (fun h => by cases h), fun i hi => ?_, fun hne => ?_⟩
    · have hm' : (zs.take len).getD i 0 ∈ zs := by
        rw [List.getD, List.getElem?_eq_getElem hi, Option.getD_some]
        exact List.mem_of_mem_take (List.getElem_mem hi)
      have := hwf _ hm'
      exact bounds_u8 this
    have hp : 0 < len := by
      rcases Nat.eq_zero_or_pos len with h | h
      · subst h; simp at hne
      · exact h
    obtain ⟨b, off, spot⟩ := x
    have hspot : spot = Option.none := by simpa [Addr.add] using World.cell?_spot (hcell 0 (by omega))
    subst hspot
    refine ⟨b, off, rfl, fun i hi => ?_⟩
    rw [hlen] at hi
    have := hcell i (by omega)
    rw [Go.WideShapes.add_plain] at this
    rw [this]
    simp [List.getD, hi]
end Go.Proofs.Yteklcolphbcjlaa
/- Tasks at their periods, and lists of them, that are arguments: what they hold. -/
namespace Go.Proofs.Yteklcolphbcjlaa
open Go.ChangeShapes Go.WideShapes Go.RowKit Go.Deep Go.Joins

/-- A struct of six integers, as cells. -/
theorem trod_six {H : Type} {enc : TypeId × Value → H} {P : Program} {w : World} {base n : Nat} {spare : Nat → Bool} {held : Bool} {t : TypeId} {g0 g1 g2 g3 g4 g5 : Field} {v0 v1 v2 v3 v4 v5 : Value} {y : DataW H × List MemPlace}
    (hs : P.underlying t = some (.struct #[g0, g1, g2, g3, g4, g5])) (hone : oneCellFields P #[g0, g1, g2, g3, g4, g5] = true)
    (u0 : P.underlying g0.type = some (.int .i64)) (u1 : P.underlying g1.type = some (.int .i64)) (u2 : P.underlying g2.type = some (.int .i64)) (u3 : P.underlying g3.type = some (.int .i64)) (u4 : P.underlying g4.type = some (.int .i64)) (u5 : P.underlying g5.type = some (.int .i64))
    (h : DataW.trod enc P w base spare held n t [v0, v1, v2, v3, v4, v5] = some y) : ∃ c t x m k e : Int, v0 = .int .i64 c ∧ v1 = .int .i64 t ∧ v2 = .int .i64 x ∧ v3 = .int .i64 m ∧ v4 = .int .i64 k ∧ v5 = .int .i64 e := by
  obtain ⟨xs, kk, _, _, _, hlen, hg⟩ := DataW.trod_struct hs h
  have each : ∀ (i : Nat) (f : Field) (c : Value), #[g0, g1, g2, g3, g4, g5][i]? = some f → #[v0, v1, v2, v3, v4, v5][i]? = some c → P.underlying f.type = some (.int .i64) → ∃ a, c = .int .i64 a := by
    intro i f c hi hc hu
    obtain ⟨o, kc⟩ := hone_of hone i f hi
    have hlt : i < xs.length := by
      have := (Array.getElem?_eq_some_iff.1 hi).1
      simp at this hlen; omega
    have := hg i f hi
    rw [List.getElem?_eq_getElem hlt, o, kc] at this
    obtain ⟨a, e, _⟩ := see_field (enc := enc) (w := w) (base := base) (spare := spare) (held := held) (n := kk) (c := c) hu (y := xs[i]) (by
      rw [← this]
      congr 1
      have hl : i < 6 := by have := (Array.getElem?_eq_some_iff.1 hi).1; simpa using this
      rcases (show i = 0 ∨ i = 1 ∨ i = 2 ∨ i = 3 ∨ i = 4 ∨ i = 5 by omega) with rfl | rfl | rfl | rfl | rfl | rfl <;> simp at hc <;> subst hc <;> rfl)
    exact ⟨a, e⟩
  obtain ⟨a0, e0⟩ := each 0 g0 v0 rfl rfl u0
  obtain ⟨a1, e1⟩ := each 1 g1 v1 rfl rfl u1
  obtain ⟨a2, e2⟩ := each 2 g2 v2 rfl rfl u2
  obtain ⟨a3, e3⟩ := each 3 g3 v3 rfl rfl u3
  obtain ⟨a4, e4⟩ := each 4 g4 v4 rfl rfl u4
  obtain ⟨a5, e5⟩ := each 5 g5 v5 rfl rfl u5
  exact ⟨a0, a1, a2, a3, a4, a5, e0, e1, e2, e3, e4, e5⟩
end Go.Proofs.Yteklcolphbcjlaa
/- What is asked, as an argument: what it holds. -/
namespace Go.Proofs.Yteklcolphbcjlaa
open Go.ChangeShapes Go.WideShapes Go.RowKit Go.Deep Go.Joins

/-- What a struct's fields must be that is what is asked. -/
structure OpAt (P : Program) (t e : TypeId) (h0 h1 h2 h3 h4 h5 h6 h7 h8 g0 g1 g2 g3 g4 g5 : Field) : Prop where
  hs : P.underlying t = some (.struct #[h0, h1, h2, h3, h4, h5, h6, h7, h8])
  ce : P.cellsOf t = 14
  o0 : h0.offset = 0
  o1 : h1.offset = 1
  o2 : h2.offset = 2
  o3 : h3.offset = 8
  o4 : h4.offset = 9
  o5 : h5.offset = 10
  o6 : h6.offset = 11
  o7 : h7.offset = 12
  o8 : h8.offset = 13
  c0 : P.cellsOf h0.type = 1
  c1 : P.cellsOf h1.type = 1
  c2 : P.cellsOf h2.type = 6
  c3 : P.cellsOf h3.type = 1
  c4 : P.cellsOf h4.type = 1
  c5 : P.cellsOf h5.type = 1
  c6 : P.cellsOf h6.type = 1
  c7 : P.cellsOf h7.type = 1
  c8 : P.cellsOf h8.type = 1
  sp : P.underlying h2.type = some (.struct #[g0, g1, g2, g3, g4, g5])
  hone : oneCellFields P #[g0, g1, g2, g3, g4, g5] = true
  u0 : P.underlying g0.type = some (.int .i64)
  u1 : P.underlying g1.type = some (.int .i64)
  u2 : P.underlying g2.type = some (.int .i64)
  u3 : P.underlying g3.type = some (.int .i64)
  u4 : P.underlying g4.type = some (.int .i64)
  u5 : P.underlying g5.type = some (.int .i64)
  w0 : P.underlying h0.type = some (.int .i64)
  w1 : P.underlying h1.type = some (.int .i64)
  w3 : P.underlying h3.type = some (.int .i64)
  w4 : P.underlying h4.type = some (.int .i64)
  w5 : P.underlying h5.type = some (.int .i64)
  w6 : P.underlying h6.type = some (.int .i64)
  w7 : P.underlying h7.type = some (.int .i64)
  ds : P.underlying h8.type = some (.slice e)
  de : P.underlying e = some (.int .i64)
  dc : P.cellsOf e = 1
theorem nums_cell {H : Type} {enc : TypeId × Value → H} {P : Program} {w : World} {base n : Nat} {held : Bool} {t e : TypeId} {x : Value} {y : DataW H × List MemPlace}
    (ht : P.underlying t = some (.slice e)) (he : P.underlying e = some (.int .i64)) (hc : P.cellsOf e = 1) (hf : DataW.trod enc P w base (fun _ => true) held n t [x] = some y) : ∃ ks, Nums w x ks := by
  rcases open_ints ht he hc hf with ⟨hcs, _⟩ | ⟨ad, l, c, zs, hcs, _, hl, hm, hz, _, hcell, _⟩
  · simp at hcs
    exact ⟨[], none, 0, hcs, by simp, by simp, fun h => absurd rfl h⟩
  · simp at hcs
    subst hcs
    simp only [if_true] at hz
    have hlen : (zs.take l).length = l := by simp; omega
    refine ⟨zs.take l, some ad, c, by rw [hlen], by omega, hm, fun hne => ?_⟩
    have hp : 0 < l := by
      rcases Nat.eq_zero_or_pos l with h | h
      · subst h; simp at hne
      · exact h
    obtain ⟨b, off, spot⟩ := ad
    have hspot : spot = none := by simpa [Addr.add] using World.cell?_spot (hcell 0 (by omega))
    subst hspot
    refine ⟨b, off, rfl, fun i hi => ?_⟩
    rw [hlen] at hi
    have := hcell i (by omega)
    rw [Go.WideShapes.add_plain] at this
    rw [this]
    simp [List.getD, hi]
set_option maxHeartbeats 1000000 in
theorem trod_op {H : Type} {enc : TypeId × Value → H} {P : Program} {w : World} {base n : Nat} {held : Bool} {t e : TypeId} {h0 h1 h2 h3 h4 h5 h6 h7 h8 g0 g1 g2 g3 g4 g5 : Field} {cs : List Value} {y : DataW H × List MemPlace}
    (A : OpAt P t e h0 h1 h2 h3 h4 h5 h6 h7 h8 g0 g1 g2 g3 g4 g5) (hlen : cs.length = 14) (h : DataW.trod enc P w base (fun _ => true) held n t cs = some y) :
    ∃ (k id a b x m c e' t' mx wi cc v : Int) (dv : Value) (ks : List Int), cs = [.int .i64 k, .int .i64 id, .int .i64 a, .int .i64 b, .int .i64 x, .int .i64 m, .int .i64 c, .int .i64 e', .int .i64 t', .int .i64 mx, .int .i64 wi, .int .i64 cc, .int .i64 v, dv] ∧ Nums w dv ks := by
  obtain ⟨xs, kk, _, _, _, hxl, hfl⟩ := DataW.trod_struct A.hs h
  match xs, hxl, cs, hlen with
  | [y0, y1, y2, y3, y4, y5, y6, y7, y8], _, [x0, x1, x2, x3, x4, x5, x6, x7, x8, x9, x10, x11, x12, x13], _ =>
    have k0 := hfl 0 h0 rfl
    have k1 := hfl 1 h1 rfl
    have k2 := hfl 2 h2 rfl
    have k3 := hfl 3 h3 rfl
    have k4 := hfl 4 h4 rfl
    have k5 := hfl 5 h5 rfl
    have k6 := hfl 6 h6 rfl
    have k7 := hfl 7 h7 rfl
    have k8 := hfl 8 h8 rfl
    simp [A.o0, A.c0] at k0
    simp [A.o1, A.c1] at k1
    simp [A.o2, A.c2] at k2
    simp [A.o3, A.c3] at k3
    simp [A.o4, A.c4] at k4
    simp [A.o5, A.c5] at k5
    simp [A.o6, A.c6] at k6
    simp [A.o7, A.c7] at k7
    simp [A.o8, A.c8] at k8
    obtain ⟨k, rfl, _⟩ := see_field A.w0 k0
    obtain ⟨id, rfl, _⟩ := see_field A.w1 k1
    obtain ⟨a, b, x, m, c, e', rfl, rfl, rfl, rfl, rfl, rfl⟩ := trod_six A.sp A.hone A.u0 A.u1 A.u2 A.u3 A.u4 A.u5 k2
    obtain ⟨t', rfl, _⟩ := see_field A.w3 k3
    obtain ⟨mx, rfl, _⟩ := see_field A.w4 k4
    obtain ⟨wi, rfl, _⟩ := see_field A.w5 k5
    obtain ⟨cc, rfl, _⟩ := see_field A.w6 k6
    obtain ⟨v, rfl, _⟩ := see_field A.w7 k7
    obtain ⟨ks, hk⟩ := nums_cell A.ds A.de A.dc k8
    exact ⟨k, id, a, b, x, m, c, e', t', mx, wi, cc, v, x13, ks, rfl, hk⟩
/-- What is asked. -/
theorem see_op {H : Type} {enc : TypeId × Value → H} {P : Program} {w : World} {base b0 : Nat} {held : Bool} {r : Reach} {t e : TypeId} {h0 h1 h2 h3 h4 h5 h6 h7 h8 g0 g1 g2 g3 g4 g5 : Field} {v : Value} {d : DataW H} {p : List MemPlace}
    (A : OpAt P t e h0 h1 h2 h3 h4 h5 h6 h7 h8 g0 g1 g2 g3 g4 g5) (hv : Value.okWide P w r b0 t v) (h : DataW.Trod enc P w base (fun _ => true) held t v d p) :
    ∃ (k id a b x m c e' t' mx wi cc v' : Int) (dv : Value) (ks : List Int), v = .agg #[.int .i64 k, .int .i64 id, .int .i64 a, .int .i64 b, .int .i64 x, .int .i64 m, .int .i64 c, .int .i64 e', .int .i64 t', .int .i64 mx, .int .i64 wi, .int .i64 cc, .int .i64 v', dv] ∧ Nums w dv ks := by
  obtain ⟨cs, rfl, hsz⟩ := okWide_struct A.hs hv
  obtain ⟨fuel, hf⟩ := h
  obtain ⟨k, id, a, b, x, m, c, e', t', mx, wi, cc, v', dv, ks, hq, hk⟩ := trod_op A (by have := hsz.trans A.ce; simpa [Value.cells] using this) hf
  refine ⟨k, id, a, b, x, m, c, e', t', mx, wi, cc, v', dv, ks, ?_, hk⟩
  obtain ⟨l⟩ := cs
  simp [Value.cells] at hq
  rw [hq]
theorem Try.opAt : ∃ h0 h1 h2 h3 h4 h5 h6 h7 h8 g0 g1 g2 g3 g4 g5, OpAt Try.prog 26 3 h0 h1 h2 h3 h4 h5 h6 h7 h8 g0 g1 g2 g3 g4 g5 :=
  ⟨_, _, _, _, _, _, _, _, _, _, _, _, _, _, _, ⟨Try.underlying26, by kernel_rfl, rfl, rfl, rfl, rfl, rfl, rfl, rfl, rfl, rfl, by kernel_rfl, by kernel_rfl, by kernel_rfl, by kernel_rfl, by kernel_rfl, by kernel_rfl, by kernel_rfl, by kernel_rfl, by kernel_rfl, Try.underlying23, by kernel_rfl, Try.underlying3, Try.underlying3, Try.underlying3, Try.underlying3, Try.underlying3, Try.underlying3, Try.underlying3, Try.underlying3, Try.underlying3, Try.underlying3, Try.underlying3, Try.underlying3, Try.underlying3, Try.underlying24, Try.underlying3, by kernel_rfl⟩⟩
end Go.Proofs.Yteklcolphbcjlaa
