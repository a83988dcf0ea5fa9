/- Texts that belong together, one behind the other: BB20, BB21, BB22, BB23, BB24. -/
import Derived.Test.YteklcolphbcjlaaQ15
import Derived.Test.YteklcolphbcjlaaQ1
import Derived.Deep.RegionHeld3
/- Walks of package wire: Get of what is no kind; of all. -/
namespace Go.Proofs.Yteklcolphbcjlaa
open Go.RowKit

theorem ixs_far {k : Int} (h : 5 ≤ k) : ixs k = [] := by
  unfold ixs
  rw [if_neg (by omega), if_neg (by omega), if_neg (by omega), if_neg (by omega), if_neg (by omega)]
set_option maxHeartbeats 8000000 in
set_option maxRecDepth 100000 in
theorem wget16_far (k : Int) (xs : List Int) (v : Value) (w : World) (h : Bys w v xs) (hl : 0 < xs.length) (h0 : xs.getD 0 0 = k) (hk : 5 ≤ k) :
    Calls Try.prog 11 #[v] w (GetE xs w) := by
  have HV : Hid ((∀ y, Below w.heap.size w y → Bys y v xs) ∧ 0 < xs.length ∧ xs.getD 0 0 = k) := ⟨fun y hy => h.later hy, hl, h0⟩
  obtain ⟨a, cap, rfl, h1, h2, h3, h4, h5⟩ := h
  obtain ⟨bb, oo, rfl, h6⟩ := h5 (by intro e; rw [e] at hl; simp at hl)
  have HD : Hid (∀ i, i < xs.length → 0 ≤ xs.getD i 0 ∧ xs.getD i 0 ≤ 255) := h4
  have HB : Hid (Bk ((w.alloc (.cells #[.int .i64 0, .int .i64 0, .int .i64 0, .int .i64 0, .int .i64 0, .int .i64 0, .int .i64 0, .int .i64 0, .int .i64 0, .int .i64 0, .int .i64 0, .int .i64 0, .int .i64 0, .slice none 0 0] 26)).alloc (.cells #[.int .i64 k, .int .i64 0, .int .i64 0, .int .i64 0, .int .i64 0, .int .i64 0, .int .i64 0, .int .i64 0, .int .i64 0, .int .i64 0, .int .i64 0, .int .i64 0, .int .i64 0, .slice none 0 0] 26)) w.heap.size [.int .i64 0, .int .i64 0, .int .i64 0, .int .i64 0, .int .i64 0, .int .i64 0, .int .i64 0, .int .i64 0, .int .i64 0, .int .i64 0, .int .i64 0, .int .i64 0, .int .i64 0, .slice none 0 0] ∧ Bk ((w.alloc (.cells #[.int .i64 0, .int .i64 0, .int .i64 0, .int .i64 0, .int .i64 0, .int .i64 0, .int .i64 0, .int .i64 0, .int .i64 0, .int .i64 0, .int .i64 0, .int .i64 0, .int .i64 0, .slice none 0 0] 26)).alloc (.cells #[.int .i64 k, .int .i64 0, .int .i64 0, .int .i64 0, .int .i64 0, .int .i64 0, .int .i64 0, .int .i64 0, .int .i64 0, .int .i64 0, .int .i64 0, .int .i64 0, .int .i64 0, .slice none 0 0] 26)) (w.heap.size + 1) [.int .i64 k, .int .i64 0, .int .i64 0, .int .i64 0, .int .i64 0, .int .i64 0, .int .i64 0, .int .i64 0, .int .i64 0, .int .i64 0, .int .i64 0, .int .i64 0, .int .i64 0, .slice none 0 0] ∧ Below w.heap.size w ((w.alloc (.cells #[.int .i64 0, .int .i64 0, .int .i64 0, .int .i64 0, .int .i64 0, .int .i64 0, .int .i64 0, .int .i64 0, .int .i64 0, .int .i64 0, .int .i64 0, .int .i64 0, .int .i64 0, .slice none 0 0] 26)).alloc (.cells #[.int .i64 k, .int .i64 0, .int .i64 0, .int .i64 0, .int .i64 0, .int .i64 0, .int .i64 0, .int .i64 0, .int .i64 0, .int .i64 0, .int .i64 0, .int .i64 0, .int .i64 0, .slice none 0 0] 26)) ∧ Below w.heap.size w (w.alloc (.cells #[.int .i64 0, .int .i64 0, .int .i64 0, .int .i64 0, .int .i64 0, .int .i64 0, .int .i64 0, .int .i64 0, .int .i64 0, .int .i64 0, .int .i64 0, .int .i64 0, .int .i64 0, .slice none 0 0] 26))) := ⟨(Bk.new w _ _).later (below_b1 _ _), (by have := Bk.new (w.alloc (.cells #[.int .i64 0, .int .i64 0, .int .i64 0, .int .i64 0, .int .i64 0, .int .i64 0, .int .i64 0, .int .i64 0, .int .i64 0, .int .i64 0, .int .i64 0, .int .i64 0, .int .i64 0, .slice none 0 0] 26)) [.int .i64 k, .int .i64 0, .int .i64 0, .int .i64 0, .int .i64 0, .int .i64 0, .int .i64 0, .int .i64 0, .int .i64 0, .int .i64 0, .int .i64 0, .int .i64 0, .int .i64 0, .slice none 0 0] 26; simp only [World.size_alloc] at this; exact this), below_b2 _ _ _, below_b1 _ _⟩
  have e0 := cell_later HB.out.2.2.2 (h6 0 hl)
  rw [Nat.add_zero, h0] at e0
  have bk := h4 0 hl
  rw [h0] at bk
  have wk : IntKind.i64.wrap k = k := by rw [IntKind.wrap_i64]; omega
  have c0' : ((xs.length : Int) == 0) = false := beq_eq_false_iff_ne.2 (by omega)
  have hln : (0 : Int) < xs.length := by omega
  have h1c : (1 : Int) ≤ cap := by omega
  have h1d : (1 : Int) ≤ xs.length := by omega
  have hs : ((w.alloc (.cells #[.int .i64 0, .int .i64 0, .int .i64 0, .int .i64 0, .int .i64 0, .int .i64 0, .int .i64 0, .int .i64 0, .int .i64 0, .int .i64 0, .int .i64 0, .int .i64 0, .int .i64 0, .slice none 0 0] 26)).alloc (.cells #[.int .i64 k, .int .i64 0, .int .i64 0, .int .i64 0, .int .i64 0, .int .i64 0, .int .i64 0, .int .i64 0, .int .i64 0, .int .i64 0, .int .i64 0, .int .i64 0, .int .i64 0, .slice none 0 0] 26)).heap.size = w.heap.size + 2 := by simp
  have HS : Hid (((w.alloc (.cells #[.int .i64 0, .int .i64 0, .int .i64 0, .int .i64 0, .int .i64 0, .int .i64 0, .int .i64 0, .int .i64 0, .int .i64 0, .int .i64 0, .int .i64 0, .int .i64 0, .int .i64 0, .slice none 0 0] 26)).alloc (.cells #[.int .i64 k, .int .i64 0, .int .i64 0, .int .i64 0, .int .i64 0, .int .i64 0, .int .i64 0, .int .i64 0, .int .i64 0, .int .i64 0, .int .i64 0, .int .i64 0, .int .i64 0, .slice none 0 0] 26)).heap.size = w.heap.size + 2) := hs
  have HK : Hid (5 ≤ k) := hk
  clear h3 h4 h5 h6 h0 hs
  rcases Nat.lt_or_ge 1 cap with hc | hc
  case' inl =>
    have hc' : (1 : Int) < cap := by omega
    have HRV : Hid (∀ y, Below w.heap.size w y → Bys y (.slice (some ⟨bb, oo + 1, none⟩) (xs.length - 1) (cap - 1)) (xs.drop 1)) := fun y hy => (HV.out.1 y hy).rest1 (S := 1) HV.out.2.1 (oo + 1) (fun _ => rfl)
    go_enter Try.func11, Try.ntmps11
    go_wp2_with fail
    generalize hrv : Value.slice (some ⟨bb, oo + 1, none⟩) (xs.length - 1) (cap - 1) = rv at *
  case' inr =>
    obtain rfl : cap = 1 := by omega
    have hl1 : xs.length - 1 = 0 := by omega
    have HRV : Hid (∀ y, Below w.heap.size w y → Bys y (.slice (some ⟨bb, oo, none⟩) 0 0) (xs.drop 1)) := fun y hy => by
      have := (HV.out.1 y hy).rest1 (S := 1) HV.out.2.1 oo (fun h => absurd h (by omega))
      rw [hl1] at this
      exact this
    go_enter Try.func11, Try.ntmps11
    go_wp2_with fail
    generalize hrv : Value.slice (some ⟨bb, oo, none⟩) 0 0 = rv at *
  all_goals
    clear hrv
    generalize ((w.alloc (.cells #[.int .i64 0, .int .i64 0, .int .i64 0, .int .i64 0, .int .i64 0, .int .i64 0, .int .i64 0, .int .i64 0, .int .i64 0, .int .i64 0, .int .i64 0, .int .i64 0, .int .i64 0, .slice none 0 0] 26)).alloc (.cells #[.int .i64 k, .int .i64 0, .int .i64 0, .int .i64 0, .int .i64 0, .int .i64 0, .int .i64 0, .int .i64 0, .int .i64 0, .int .i64 0, .int .i64 0, .int .i64 0, .int .i64 0, .slice none 0 0] 26)) = W at *
    refine (had_any k _).mono ?_
    rintro e w4 ⟨v4, q, rfl, ho4, hw4, hb4⟩
    have HQ : Hid (∀ i, i < 12 → w.heap.size + 1 < q i) := fun i hi => by have := (hw4 i hi).2; have := HS.out; omega
    rw [ixs_far HK.out] at ho4
    have hsl : ∃ a c, v4 = .slice a 0 c := by
      rcases ho4.rd with ⟨_, e⟩ | ⟨g, c, e, _⟩
      · exact ⟨_, _, e⟩
      · exact ⟨_, _, e⟩
    obtain ⟨a4, c4, rfl⟩ := hsl
    have HX : Hid (Bk w4 (w.heap.size + 1) [.int .i64 k, .int .i64 0, .int .i64 0, .int .i64 0, .int .i64 0, .int .i64 0, .int .i64 0, .int .i64 0, .int .i64 0, .int .i64 0, .int .i64 0, .int .i64 0, .int .i64 0, .slice none 0 0] ∧ Bk w4 w.heap.size [.int .i64 0, .int .i64 0, .int .i64 0, .int .i64 0, .int .i64 0, .int .i64 0, .int .i64 0, .int .i64 0, .int .i64 0, .int .i64 0, .int .i64 0, .int .i64 0, .int .i64 0, .slice none 0 0] ∧ Below w.heap.size w w4) := ⟨HB.out.2.1.later hb4, HB.out.1.later hb4, HB.out.2.2.1.trans (hb4.mono HB.out.2.2.1.size)⟩
    have HF : Hid (IsGet xs owZ false) := isGet_far (by rw [HV.out.2.2]; have := HK.out; omega)
    have HM : Hid (omB (zK k) = false) := om_far (by have := HK.out; omega)
    clear ho4 hw4 hb4 e0
    go_wp2_with fail
    go_loopw [5, 24] (fun r iv wr => r = rv ∧ iv = .int .i64 0 ∧ Hid (wr = w4)) (fun _ _ _ => 0)
    case atStart => exact ⟨rfl, by go_num, rfl⟩
    case round =>
      obtain ⟨rfl, rfl, HR⟩ := hrel
      obtain rfl : _ = w4 := HR.out
      have hrv := HRV.out _ HX.out.2.2
      obtain ⟨ar, capr, er, _⟩ := hrv
      subst er
      obtain ⟨n, hn⟩ : ∃ n, (xs.drop 1).length = n := ⟨_, rfl⟩
      rw [hn]
      clear hn HRV
      by_cases hz : n = 0
      · subst hz
        go_wp2_with (refine load_bkG rfl 26 _ rfl (w.heap.size + 1) 0 [.int .i64 k, .int .i64 0, .int .i64 0, .int .i64 0, .int .i64 0, .int .i64 0, .int .i64 0, .int .i64 0, .int .i64 0, .int .i64 0, .int .i64 0, .int .i64 0, .int .i64 0, .slice none 0 0] [.int .i64 k, .int .i64 0, .int .i64 0, .int .i64 0, .int .i64 0, .int .i64 0, .int .i64 0, .int .i64 0, .int .i64 0, .int .i64 0, .int .i64 0, .int .i64 0, .int .i64 0, .slice none 0 0] rfl HX.out.1 rfl _ Try.underlying26 rfl (by kernel_rfl) ?_)
        refine (wmay16_any k 0 0 0 0 0 0 0 0 0 0 0 0 (.slice none 0 0) [] _ (Nums_nil _)).mono ?_
        rintro e w6 ⟨rfl, hb6⟩
        have HR3 : Hid (Bk w6 w.heap.size [.int .i64 0, .int .i64 0, .int .i64 0, .int .i64 0, .int .i64 0, .int .i64 0, .int .i64 0, .int .i64 0, .int .i64 0, .int .i64 0, .int .i64 0, .int .i64 0, .int .i64 0, .slice none 0 0] ∧ Below w.heap.size w w6) := ⟨HX.out.2.1.later hb6, HX.out.2.2.trans (hb6.mono HX.out.2.2.size)⟩
        have hm : omB ⟨k, 0, ⟨0, 0, 0, 0, 0, 0⟩, 0, 0, 0, 0, 0, []⟩ = false := HM.out
        rw [hm]
        clear hb6 hm
        go_wp2_with (refine store_bk rfl 26 _ _ rfl w.heap.size 0 [.int .i64 0, .int .i64 0, .int .i64 0, .int .i64 0, .int .i64 0, .int .i64 0, .int .i64 0, .int .i64 0, .int .i64 0, .int .i64 0, .int .i64 0, .int .i64 0, .int .i64 0, .slice none 0 0] [.int .i64 0, .int .i64 0, .int .i64 0, .int .i64 0, .int .i64 0, .int .i64 0, .int .i64 0, .int .i64 0, .int .i64 0, .int .i64 0, .int .i64 0, .int .i64 0, .int .i64 0, .slice none 0 0] [.int .i64 0, .int .i64 0, .int .i64 0, .int .i64 0, .int .i64 0, .int .i64 0, .int .i64 0, .int .i64 0, .int .i64 0, .int .i64 0, .int .i64 0, .int .i64 0, .int .i64 0, .slice none 0 0] rfl rfl 14 rfl HR3.out.1 (Nat.le_refl _) rfl (by kernel_rfl) one14z ?_; intro w7 h1 h2 h3 h4)
        exact ret_ct (ty := 26) rfl w.heap.size [.int .i64 0, .int .i64 0, .int .i64 0, .int .i64 0, .int .i64 0, .int .i64 0, .int .i64 0, .int .i64 0, .int .i64 0, .int .i64 0, .int .i64 0, .int .i64 0, .int .i64 0, .slice none 0 0] (.bool false) rfl h1 _ Try.underlying26 rfl (by kernel_rfl) rfl rfl (GetE.none (HF.out) (h3 _ _ (Nat.le_refl _) HR3.out.2))
      · have hz' : (0 : Int) < (n : Int) := by omega
        have hz2 : 0 < n := by omega
        clear hz
        go_wp2_with (refine store_bk rfl 26 _ _ rfl w.heap.size 0 [.int .i64 0, .int .i64 0, .int .i64 0, .int .i64 0, .int .i64 0, .int .i64 0, .int .i64 0, .int .i64 0, .int .i64 0, .int .i64 0, .int .i64 0, .int .i64 0, .int .i64 0, .slice none 0 0] [.int .i64 0, .int .i64 0, .int .i64 0, .int .i64 0, .int .i64 0, .int .i64 0, .int .i64 0, .int .i64 0, .int .i64 0, .int .i64 0, .int .i64 0, .int .i64 0, .int .i64 0, .slice none 0 0] [.int .i64 0, .int .i64 0, .int .i64 0, .int .i64 0, .int .i64 0, .int .i64 0, .int .i64 0, .int .i64 0, .int .i64 0, .int .i64 0, .int .i64 0, .int .i64 0, .int .i64 0, .slice none 0 0] rfl rfl 14 rfl HX.out.2.1 (Nat.le_refl _) rfl (by kernel_rfl) one14z ?_; intro w7 h1 h2 h3 h4)
        exact ret_ct (ty := 26) rfl w.heap.size [.int .i64 0, .int .i64 0, .int .i64 0, .int .i64 0, .int .i64 0, .int .i64 0, .int .i64 0, .int .i64 0, .int .i64 0, .int .i64 0, .int .i64 0, .int .i64 0, .int .i64 0, .slice none 0 0] (.bool false) rfl h1 _ Try.underlying26 rfl (by kernel_rfl) rfl rfl (GetE.none (HF.out) (h3 _ _ (Nat.le_refl _) HX.out.2.2))
set_option maxHeartbeats 2000000 in
set_option maxRecDepth 100000 in
theorem wget16_any (xs : List Int) (v : Value) (w : World) (h : Bys w v xs) : Calls Try.prog 11 #[v] w (GetE xs w) := by
  by_cases hl : 0 < xs.length
  · have hb := h.bd 0 hl
    by_cases k3 : xs.getD 0 0 ≤ 3
    · exact wget16_0 _ xs v w h hl rfl ⟨hb.1, k3⟩
    by_cases k4 : xs.getD 0 0 = 4
    · exact wget16_4 xs v w h hl k4
    · exact wget16_far _ xs v w h hl rfl (by omega)
  · obtain ⟨a, cap, rfl, h1, h2, h3, h4, h5⟩ := h
    have HF : Hid (IsGet xs owZ false) := isGet_long (.inl (by omega))
    have c0' : ((xs.length : Int) == 0) = true := beq_iff_eq.2 (by omega)
    have HB : Hid (Bk (w.alloc (.cells #[.int .i64 0, .int .i64 0, .int .i64 0, .int .i64 0, .int .i64 0, .int .i64 0, .int .i64 0, .int .i64 0, .int .i64 0, .int .i64 0, .int .i64 0, .int .i64 0, .int .i64 0, .slice none 0 0] 26)) w.heap.size [.int .i64 0, .int .i64 0, .int .i64 0, .int .i64 0, .int .i64 0, .int .i64 0, .int .i64 0, .int .i64 0, .int .i64 0, .int .i64 0, .int .i64 0, .int .i64 0, .int .i64 0, .slice none 0 0] ∧ Below w.heap.size w (w.alloc (.cells #[.int .i64 0, .int .i64 0, .int .i64 0, .int .i64 0, .int .i64 0, .int .i64 0, .int .i64 0, .int .i64 0, .int .i64 0, .int .i64 0, .int .i64 0, .int .i64 0, .int .i64 0, .slice none 0 0] 26))) := ⟨Bk.new w _ _, below_b1 _ _⟩
    clear h3 h4 h5 hl
    go_enter Try.func11, Try.ntmps11
    go_wp2_with (refine store_bk rfl 26 _ _ rfl w.heap.size 0 [.int .i64 0, .int .i64 0, .int .i64 0, .int .i64 0, .int .i64 0, .int .i64 0, .int .i64 0, .int .i64 0, .int .i64 0, .int .i64 0, .int .i64 0, .int .i64 0, .int .i64 0, .slice none 0 0] [.int .i64 0, .int .i64 0, .int .i64 0, .int .i64 0, .int .i64 0, .int .i64 0, .int .i64 0, .int .i64 0, .int .i64 0, .int .i64 0, .int .i64 0, .int .i64 0, .int .i64 0, .slice none 0 0] [.int .i64 0, .int .i64 0, .int .i64 0, .int .i64 0, .int .i64 0, .int .i64 0, .int .i64 0, .int .i64 0, .int .i64 0, .int .i64 0, .int .i64 0, .int .i64 0, .int .i64 0, .slice none 0 0] rfl rfl 14 rfl HB.out.1 (Nat.le_refl _) rfl (by kernel_rfl) one14z ?_; intro w7 h1 h2 h3 h4)
    exact ret_ct (ty := 26) rfl w.heap.size [.int .i64 0, .int .i64 0, .int .i64 0, .int .i64 0, .int .i64 0, .int .i64 0, .int .i64 0, .int .i64 0, .int .i64 0, .int .i64 0, .int .i64 0, .int .i64 0, .int .i64 0, .slice none 0 0] (.bool false) rfl h1 _ Try.underlying26 rfl (by kernel_rfl) rfl rfl (GetE.none (HF.out) (h3 _ _ (Nat.le_refl _) HB.out.2))
end Go.Proofs.Yteklcolphbcjlaa
/- The chapter's example. -/
namespace Go.Proofs.Yteklcolphbcjlaa
open Go.RowKit

theorem byL {w : World} {v : Value} {xs : List Int} (B : Nat) (h : OwY w B v xs) (hx : ∀ x ∈ xs, 0 ≤ x ∧ x ≤ 255) : Bys w v xs := h.bys fun i hi => by
  rw [List.getD_eq_getElem?_getD, List.getElem?_eq_getElem hi]
  exact hx _ (List.getElem_mem hi)
/-- The bytes of what may be asked are such. -/
theorem put_bys {w : World} {v : Value} {o : Ow} {B : Nat} (h : OwY w B v (bif omB o then obL o else [])) : Bys w v (bif omB o then obL o else []) := byL B h fun x hx => by
  cases c : omB o with
  | true => rw [c] at hx; exact ob_bytes c x hx
  | false => rw [c] at hx; cases hx
def o258 : Ow := ⟨2, 258, ⟨0, 0, 0, 0, 0, 0⟩, 0, 0, 0, 0, 0, []⟩
set_option maxHeartbeats 8000000 in
set_option maxRecDepth 100000 in
theorem awake16_any (w : World) : Calls Try.prog 8 #[] w fun e w' => e = .returned (.bool true) ∧ Below w.heap.size w w' := by
  have HO : Hid (omB o258 = true ∧ obL o258 = [2, 1, 2] ∧ IsGet [2, 1, 2] o258 true) := ⟨rfl, rfl, .inl ⟨rfl, rfl, rfl⟩⟩
  go_enter Try.func8, Try.ntmps8
  go_wp2_with fail
  refine (wput16_any 2 258 0 0 0 0 0 0 0 0 0 0 0 (.slice none 0 0) [] _ (Nums_nil _)).mono ?_
  rintro e w1 ⟨v1, rfl, ho1, hb1⟩
  have hm : omB ⟨2, 258, ⟨0, 0, 0, 0, 0, 0⟩, 0, 0, 0, 0, 0, []⟩ = true := HO.out.1
  rw [hm] at ho1 ⊢
  have HB : Hid (Bys w1 v1 [2, 1, 2] ∧ Below w.heap.size w w1) := ⟨byL _ (xs := [2, 1, 2]) ho1 (fun x hx => by simp at hx; omega), hb1⟩
  clear ho1 hb1 hm
  go_wp2_with fail
  refine (wget16_any [2, 1, 2] v1 _ HB.out.1).mono ?_
  rintro e w2 ⟨pk, pid, fc, ft, fx, fm, fk, fe, pt, pm, pw, pc, pv, dv, ds, y, rfl, hd2, hg2, hb2⟩
  obtain ⟨he, rfl⟩ := hg2.unique HO.out.2.2
  simp only [o258, Ow.mk.injEq, Sp.mk.injEq] at he
  obtain ⟨rfl, rfl, ⟨rfl, rfl, rfl, rfl, rfl, rfl⟩, rfl, rfl, rfl, rfl, rfl, rfl⟩ := he
  obtain ⟨a, zn, cap, rfl⟩ : ∃ a z c, dv = .slice a z c := by obtain ⟨a, c, e, _⟩ := hd2; exact ⟨a, _, c, e⟩
  have HC : Hid (Bys (w2.alloc (.cells #[.int .i64 2, .int .i64 258, .int .i64 0, .int .i64 0, .int .i64 0, .int .i64 0, .int .i64 0, .int .i64 0, .int .i64 0, .int .i64 0, .int .i64 0, .int .i64 0, .int .i64 0, .slice a zn cap] 26)) v1 [2, 1, 2] ∧ Nums (w2.alloc (.cells #[.int .i64 2, .int .i64 258, .int .i64 0, .int .i64 0, .int .i64 0, .int .i64 0, .int .i64 0, .int .i64 0, .int .i64 0, .int .i64 0, .int .i64 0, .int .i64 0, .int .i64 0, .slice a zn cap] 26)) (.slice a zn cap) [] ∧ Bk (w2.alloc (.cells #[.int .i64 2, .int .i64 258, .int .i64 0, .int .i64 0, .int .i64 0, .int .i64 0, .int .i64 0, .int .i64 0, .int .i64 0, .int .i64 0, .int .i64 0, .int .i64 0, .int .i64 0, .slice a zn cap] 26)) w2.heap.size [.int .i64 2, .int .i64 258, .int .i64 0, .int .i64 0, .int .i64 0, .int .i64 0, .int .i64 0, .int .i64 0, .int .i64 0, .int .i64 0, .int .i64 0, .int .i64 0, .int .i64 0, .slice a zn cap] ∧ Below w.heap.size w (w2.alloc (.cells #[.int .i64 2, .int .i64 258, .int .i64 0, .int .i64 0, .int .i64 0, .int .i64 0, .int .i64 0, .int .i64 0, .int .i64 0, .int .i64 0, .int .i64 0, .int .i64 0, .int .i64 0, .slice a zn cap] 26))) := ⟨(HB.out.1.later hb2).later (below_b1 _ _), hd2.later (below_b1 _ _), Bk.new _ _ _, HB.out.2.trans ((hb2.trans (below_b1 _ _ |>.mono hb2.size)).mono HB.out.2.size)⟩
  clear hb2 hd2 hg2 HB
  go_wp2_with fail
  have hz : (w2.alloc (.cells #[.int .i64 2, .int .i64 258, .int .i64 0, .int .i64 0, .int .i64 0, .int .i64 0, .int .i64 0, .int .i64 0, .int .i64 0, .int .i64 0, .int .i64 0, .int .i64 0, .int .i64 0, .slice a zn cap] 26)).heap.size = w2.heap.size + 1 := by simp
  generalize (w2.alloc (.cells #[.int .i64 2, .int .i64 258, .int .i64 0, .int .i64 0, .int .i64 0, .int .i64 0, .int .i64 0, .int .i64 0, .int .i64 0, .int .i64 0, .int .i64 0, .int .i64 0, .int .i64 0, .slice a zn cap] 26)) = W at *
  have HD : Hid (Bys (W.alloc (.cells #[.int .u8 2, .int .u8 1, .int .u8 2] 5)) (.slice (some ⟨w2.heap.size + 1, 0, none⟩) 3 3) [2, 1, 2] ∧ Below W.heap.size W (W.alloc (.cells #[.int .u8 2, .int .u8 1, .int .u8 2] 5))) := ⟨by rw [← hz]; exact byL 0 (World.ownsRow_lit (base := 0) (e := 5) (size := 1) W #[.int .u8 2, .int .u8 1, .int .u8 2] 3 (Nat.zero_le _) (by decide) rfl) (fun x hx => by simp at hx; omega), below_b1 _ _⟩
  refine (bytes_any [2, 1, 2] [2, 1, 2] _ _ _ (HC.out.1.later HD.out.2) HD.out.1 (by decide)).mono ?_
  rintro e w3 ⟨rfl, hb3⟩
  have hb4 := HD.out.2.trans (hb3.mono HD.out.2.size)
  have HE : Hid (Nums w3 (.slice a zn cap) [] ∧ Bk w3 w2.heap.size [.int .i64 2, .int .i64 258, .int .i64 0, .int .i64 0, .int .i64 0, .int .i64 0, .int .i64 0, .int .i64 0, .int .i64 0, .int .i64 0, .int .i64 0, .int .i64 0, .int .i64 0, .slice a zn cap] ∧ Below w.heap.size w w3) := ⟨HC.out.2.1.later hb4, HC.out.2.2.1.later hb4, HC.out.2.2.2.trans (hb4.mono HC.out.2.2.2.size)⟩
  have e1 := HE.out.2.1.cell (i := 1) rfl
  have hs : sameB [2, 1, 2] [2, 1, 2] = true := rfl
  rw [hs]
  clear hb3 hb4 HD HC hz hs
  go_wp2_with (refine load_bkG rfl 26 _ rfl w2.heap.size 0 [.int .i64 2, .int .i64 258, .int .i64 0, .int .i64 0, .int .i64 0, .int .i64 0, .int .i64 0, .int .i64 0, .int .i64 0, .int .i64 0, .int .i64 0, .int .i64 0, .int .i64 0, .slice a zn cap] [.int .i64 2, .int .i64 258, .int .i64 0, .int .i64 0, .int .i64 0, .int .i64 0, .int .i64 0, .int .i64 0, .int .i64 0, .int .i64 0, .int .i64 0, .int .i64 0, .int .i64 0, .slice a zn cap] rfl HE.out.2.1 rfl _ Try.underlying26 rfl (by kernel_rfl) ?_)
  refine (wmay16_any 2 258 0 0 0 0 0 0 0 0 0 0 0 (.slice a zn cap) [] _ HE.out.1).mono ?_
  rintro e w5 ⟨rfl, hb5⟩
  have hm : omB ⟨2, 258, ⟨0, 0, 0, 0, 0, 0⟩, 0, 0, 0, 0, 0, []⟩ = true := HO.out.1
  rw [hm]
  have HF := HE.out.2.2.trans (hb5.mono HE.out.2.2.size)
  clear hm hb5 HE e1
  go_wp2_with fail
  go_ret
  exact ⟨rfl, HF⟩
end Go.Proofs.Yteklcolphbcjlaa
/- What is asked has as many bytes as it needs. -/
namespace Go.Proofs.Yteklcolphbcjlaa
open Go.RowKit

theorem OwY.sl {w : World} {B : Nat} {v : Value} {xs : List Int} (h : OwY w B v xs) : ∃ a c, v = .slice a xs.length c := by
  obtain ⟨_, ⟨rfl, hz⟩ | ⟨g, cap, cur, rfl, _⟩⟩ := h
  · exact ⟨none, 0, by rw [hz]⟩
  · exact ⟨_, cap, rfl⟩
set_option maxHeartbeats 8000000 in
set_option maxRecDepth 100000 in
theorem law_wlong16 (ok oid ec et ex em ek ee ot om ow oc ov : Int) (dv : Value) (ds : List Int) (w : World) (h : Nums w dv ds) :
    Calls Try.prog 7 #[.agg #[.int .i64 ok, .int .i64 oid, .int .i64 ec, .int .i64 et, .int .i64 ex, .int .i64 em, .int .i64 ek, .int .i64 ee, .int .i64 ot, .int .i64 om, .int .i64 ow, .int .i64 oc, .int .i64 ov, dv]] w fun e w' => e = .returned (.bool true) ∧ Below w.heap.size w w' := by
  obtain ⟨a, cap, rfl⟩ : ∃ a c, dv = .slice a ds.length c := by obtain ⟨a, c, e, _⟩ := h; exact ⟨a, c, e⟩
  have HN : Hid (∀ y, Below w.heap.size w y → Nums y (.slice a ds.length cap) ds) := fun y hy => h.later hy
  have HB : Hid (Bk (w.alloc (.cells #[.int .i64 ok, .int .i64 oid, .int .i64 ec, .int .i64 et, .int .i64 ex, .int .i64 em, .int .i64 ek, .int .i64 ee, .int .i64 ot, .int .i64 om, .int .i64 ow, .int .i64 oc, .int .i64 ov, .slice a ds.length cap] 26)) w.heap.size [.int .i64 ok, .int .i64 oid, .int .i64 ec, .int .i64 et, .int .i64 ex, .int .i64 em, .int .i64 ek, .int .i64 ee, .int .i64 ot, .int .i64 om, .int .i64 ow, .int .i64 oc, .int .i64 ov, .slice a ds.length cap] ∧ Below w.heap.size w (w.alloc (.cells #[.int .i64 ok, .int .i64 oid, .int .i64 ec, .int .i64 et, .int .i64 ex, .int .i64 em, .int .i64 ek, .int .i64 ee, .int .i64 ot, .int .i64 om, .int .i64 ow, .int .i64 oc, .int .i64 ov, .slice a ds.length cap] 26))) := ⟨Bk.new w _ _, below_b1 _ _⟩
  clear h
  go_enter Try.func7, Try.ntmps7
  go_wp2_with fail
  refine (awake16_any _).mono ?_
  rintro e w1 ⟨rfl, hb1⟩
  have HC : Hid (Bk w1 w.heap.size [.int .i64 ok, .int .i64 oid, .int .i64 ec, .int .i64 et, .int .i64 ex, .int .i64 em, .int .i64 ek, .int .i64 ee, .int .i64 ot, .int .i64 om, .int .i64 ow, .int .i64 oc, .int .i64 ov, .slice a ds.length cap] ∧ Below w.heap.size w w1) := ⟨HB.out.1.later hb1, HB.out.2.trans (hb1.mono HB.out.2.size)⟩
  clear hb1 HB
  go_wp2_with (refine load_bk rfl 26 _ rfl w.heap.size 0 [.int .i64 ok, .int .i64 oid, .int .i64 ec, .int .i64 et, .int .i64 ex, .int .i64 em, .int .i64 ek, .int .i64 ee, .int .i64 ot, .int .i64 om, .int .i64 ow, .int .i64 oc, .int .i64 ov, .slice a ds.length cap] [.int .i64 ok, .int .i64 oid, .int .i64 ec, .int .i64 et, .int .i64 ex, .int .i64 em, .int .i64 ek, .int .i64 ee, .int .i64 ot, .int .i64 om, .int .i64 ow, .int .i64 oc, .int .i64 ov, .slice a ds.length cap] rfl HC.out.1 rfl _ Try.underlying26 rfl (by kernel_rfl) ?_)
  refine (wput16_any ok oid ec et ex em ek ee ot om ow oc ov (.slice a ds.length cap) ds _ (HN.out _ HC.out.2)).mono ?_
  rintro e w2 ⟨v2, rfl, ho2, hb2⟩
  have HD : Hid (Bk w2 w.heap.size [.int .i64 ok, .int .i64 oid, .int .i64 ec, .int .i64 et, .int .i64 ex, .int .i64 em, .int .i64 ek, .int .i64 ee, .int .i64 ot, .int .i64 om, .int .i64 ow, .int .i64 oc, .int .i64 ov, .slice a ds.length cap] ∧ Below w.heap.size w w2) := ⟨HC.out.1.later hb2, HC.out.2.trans (hb2.mono HC.out.2.size)⟩
  obtain ⟨a2, c2, rfl⟩ := ho2.sl
  clear ho2 hb2 HC
  cases hm : omB ⟨ok, oid, ⟨ec, et, ex, em, ek, ee⟩, ot, om, ow, oc, ov, ds⟩ with
  | false =>
    clear hm
    show _
    go_wp2_with fail
    go_ret
    exact ⟨rfl, HD.out.2⟩
  | true =>
    have hk := om_kind hm
    have hln := ob_len hm
    have HM : Hid (omB ⟨ok, oid, ⟨ec, et, ex, em, ek, ee⟩, ot, om, ow, oc, ov, ds⟩ = true) := hm
    have e0 := HD.out.1.cell (i := 0) rfl
    have e13 := HD.out.1.cell (i := 13) rfl
    clear hm
    show _
    obtain ⟨m, hmm⟩ : ∃ m, (bif true then obL ⟨ok, oid, ⟨ec, et, ex, em, ek, ee⟩, ot, om, ow, oc, ov, ds⟩ else []).length = m := ⟨_, rfl⟩
    rw [hmm]
    have hm2 : m = olN ⟨ok, oid, ⟨ec, et, ex, em, ek, ee⟩, ot, om, ow, oc, ov, ds⟩ := by rw [← hmm]; exact hln
    clear hmm hln
    rcases (show ok = 0 ∨ ok = 1 ∨ ok = 2 ∨ ok = 3 ∨ ok = 4 by have h1 : 0 ≤ ok ∧ ok ≤ 4 := hk; omega) with rfl | rfl | rfl | rfl | rfl
    · obtain rfl : m = 7 := hm2
      go_wp2_with fail
      go_ret
      exact ⟨rfl, HD.out.2⟩
    · obtain rfl : m = 5 := hm2
      go_wp2_with fail
      go_ret
      exact ⟨rfl, HD.out.2⟩
    · obtain rfl : m = 3 := hm2
      go_wp2_with fail
      go_ret
      exact ⟨rfl, HD.out.2⟩
    · obtain rfl : m = 5 := hm2
      go_wp2_with fail
      go_ret
      exact ⟨rfl, HD.out.2⟩
    · obtain rfl : m = 2 + ds.length := hm2
      have hl4 : ds.length ≤ 4 := by
        have := HM.out
        rw [om_4k] at this
        exact of_decide_eq_true (Bool.and_eq_true_iff.1 (Bool.and_eq_true_iff.1 this).1).1
      have wl : IntKind.i64.wrap (2 + (ds.length : Int)) = ((2 + ds.length : Nat) : Int) := by rw [IntKind.wrap_i64]; omega
      go_wp2_with fail
      go_ret
      exact ⟨ret_b (by simp), HD.out.2⟩
end Go.Proofs.Yteklcolphbcjlaa
/- Walks of package wire: answerMay, Answer, Answered. -/
namespace Go.Proofs.Yteklcolphbcjlaa
open Go.RowKit

set_option maxHeartbeats 2000000 in
set_option maxRecDepth 100000 in
theorem amay_any (e n : Int) (w : World) :
    Calls Try.prog 25 #[.agg #[.int .i64 e, .int .i64 n]] w fun r w' => r = .returned (.bool (anB e n)) ∧ Below w.heap.size w w' := by
  have HB : Hid (Bk (w.alloc (.cells #[.int .i64 e, .int .i64 n] 30)) w.heap.size [.int .i64 e, .int .i64 n] ∧ Below w.heap.size w (w.alloc (.cells #[.int .i64 e, .int .i64 n] 30))) := ⟨Bk.new w _ _, below_b1 _ _⟩
  have HR : Hid (anB e n = (wtB e 0 8 && wtB n 0 1099511627776)) := by
    show _ = _
    unfold anB wtB
    rw [Bool.eq_iff_iff]
    simp
  obtain ⟨e0, e1⟩ := HB.out.1.c2
  obtain ⟨y, hy⟩ : ∃ y, wtB e 0 8 = y := ⟨_, rfl⟩
  have HY : Hid (wtB e 0 8 = y) := hy
  clear hy
  go_enter Try.func25, Try.ntmps25
  go_upto_region 1 with fail
  generalize (w.alloc (.cells #[.int .i64 e, .int .i64 n] 30)) = W at *
  go_wp2_with fail
  refine (wtn_any e 0 8 _).mono ?_
  rintro r w2 ⟨rfl, rfl⟩
  rw [HY.out]
  cases y with
  | false =>
    go_wp2_with fail
    go_ret
    exact ⟨ret_b (by rw [HR.out, HY.out]; rfl), HB.out.2⟩
  | true =>
    go_wp2_with fail
    refine (wtn_any n 0 1099511627776 _).mono ?_
    rintro r w3 ⟨rfl, rfl⟩
    go_wp2_with fail
    go_ret
    exact ⟨ret_b (by rw [HR.out, HY.out]; rfl), HB.out.2⟩
theorem an_dg {e n : Int} (h : anB e n = true) : dgP e 1 1 ++ dgP n 6 6 = anL e n := by
  have := of_decide_eq_true h
  rw [dg_one e (by omega)]
  show [e, n / 1099511627776 % 256, n / 4294967296 % 256, n / 16777216 % 256, n / 65536 % 256, n / 256 % 256, n / 1 % 256] = anL e n
  rw [Int.ediv_one]
  rfl
theorem dg_bys {w : World} {B : Nat} {v : Value} {n : Int} {S : Nat} (h : OwY w B v (dgP n S S)) : Bys w v (dgP n S S) := h.bys (dgP_bd n S)
theorem step_append_at {w : World} {ops : Array Oper} {o : Oper} {act : Act} {K : Act → World → Prop} {Q : Exit → Act → World → Prop} {X : Prop} (hgd : o.guard = Option.none) (s x : Operand)
    (ho : o.op = .call { callee := .builtin .append, args := #[s, x], argTypes := #[27, 27] }) (base : Nat) (v u : Value) (xs ys : List Int)
    (hs : act.eval s = v) (hown : OwY w base v xs) (hx : act.eval x = u) (hr : Bys w u ys) (hn : xs.length + ys.length ≤ 100000) (hbase : base ≤ w.heap.size)
    (h : ∀ v' w', OwY w' base v' (xs ++ ys) → Below base w w' → K (act.put o.dst v') w') :
    if Region.wanted o (yielded ops act.tmps) = true then Oper.wp Try.prog o act w K Q else X := by
  have hw : Region.wanted o (yielded ops act.tmps) = true := by simp [Region.wanted, hgd]
  rw [if_pos hw]
  exact wp_append_bysA s x ho base v u xs ys hs hown hx hr hn hbase h
set_option maxHeartbeats 4000000 in
set_option maxRecDepth 100000 in
theorem answer_any (e n : Int) (w : World) :
    Calls Try.prog 13 #[.agg #[.int .i64 e, .int .i64 n]] w (AnsE e n w) := by
  have HB : Hid (Bk (w.alloc (.cells #[.int .i64 e, .int .i64 n] 30)) w.heap.size [.int .i64 e, .int .i64 n] ∧ Below w.heap.size w (w.alloc (.cells #[.int .i64 e, .int .i64 n] 30))) := ⟨Bk.new w _ _, below_b1 _ _⟩
  obtain ⟨e0, e1⟩ := HB.out.1.c2
  obtain ⟨y, hy⟩ : ∃ y, anB e n = y := ⟨_, rfl⟩
  have HY : Hid (anB e n = y) := hy
  clear hy
  go_enter Try.func13, Try.ntmps13
  go_upto_region 1 with fail
  generalize (w.alloc (.cells #[.int .i64 e, .int .i64 n] 30)) = W at *
  go_wp2_with fail
  refine (amay_any e n _).mono ?_
  rintro r w1 ⟨rfl, hb1⟩
  rw [HY.out]
  have HC : Hid (Bk w1 w.heap.size [.int .i64 e, .int .i64 n] ∧ Below w.heap.size w w1) := ⟨HB.out.1.later hb1, HB.out.2.trans (hb1.mono HB.out.2.size)⟩
  clear hb1 HB e0 e1
  cases y with
  | false =>
    go_wp2_with fail
    go_ret2
    exact ⟨_, by rw [HY.out]; rfl, by unfold anO; rw [HY.out]; exact OwY.nil _ _, HC.out.2⟩
  | true =>
    have MK : Hid (∀ z : World, Below w1.heap.size w1 z → (z.cell? ⟨w.heap.size, 0, none⟩ = some (.int .i64 e) ∧ z.cell? ⟨w.heap.size, 1, none⟩ = some (.int .i64 n)) ∧ Below w1.heap.size w1 z) := fun z hz => ⟨(HC.out.1.later hz).c2, hz⟩
    have HC2 : Hid (Below w.heap.size w w1) := HC.out.2
    clear HC
    go_wp2_with fail
    go_region_held3 (fun z => (z.cell? ⟨w.heap.size, 0, none⟩ = some (.int .i64 e) ∧ z.cell? ⟨w.heap.size, 1, none⟩ = some (.int .i64 n)) ∧ Below w1.heap.size w1 z)
      (first | exact MK.out _ (by assumption) | exact MK.out _ (Below.refl _ _).drew)
      (first
        | (go_at_call_of 22 e; refine (digits_any e 1 (by omega) (by omega) _).mono ?_; rintro r w3 ⟨v3, rfl, ho3, hb3⟩; have hz3 : Below w1.heap.size w1 w3 := (Below.refl _ _).drew.trans hb3)
        | (go_at_call_of 22 n; refine (digits_any n 6 (by omega) (by omega) _).mono ?_; rintro r w4 ⟨v4, rfl, ho4, hb4⟩; have hz4 : Below w1.heap.size w1 w4 := hz3.trans (hb4.mono hz3.size); have HA : Hid (OwY w4 w1.heap.size v3 (dgP e 1 1) ∧ Bys w4 v4 (dgP n 6 6) ∧ w1.heap.size ≤ w4.heap.size) := ⟨ho3.later hb4, dg_bys ho4, hz4.size⟩)
        | (have HA2 := HA; refine step_append_at (by rfl) _ _ (by rfl) w1.heap.size v3 v4 (dgP e 1 1) (dgP n 6 6) (by rfl) HA2.out.1 (by rfl) HA2.out.2.1 (by rw [dgP_len, dgP_len]; omega) HA2.out.2.2 ?_; intro v5 w5 ho5 hb5; have hz5 : Below w1.heap.size w1 w5 := hz4.trans hb5))
    all_goals
      go_wp2_with fail
      go_ret2
      exact ⟨_, by rw [HY.out]; rfl, by unfold anO; rw [HY.out]; show OwY _ _ _ (anL e n); rw [← an_dg HY.out]; exact ho5.lower HC2.out.size, HC2.out.trans (hz5.mono HC2.out.size)⟩
theorem nu_1 {xs : List Int} (h : xs.length = 7) : nuP (xs.take 1) 1 = xs.getD 0 0 := by
  match xs, h with
  | [x0, x1, x2, x3, x4, x5, x6], _ =>
    show (0 : Int) * 256 + x0 = x0
    omega
theorem nu_6 {xs : List Int} (h : xs.length = 7) : nuP (xs.drop 1) 6 = adN xs := by
  match xs, h with
  | [x0, x1, x2, x3, x4, x5, x6], _ =>
    show (((((0 * 256 + x1) * 256 + x2) * 256 + x3) * 256 + x4) * 256 + x5) * 256 + x6 = ((((x1 * 256 + x2) * 256 + x3) * 256 + x4) * 256 + x5) * 256 + x6
    omega
set_option maxHeartbeats 1000000 in
set_option maxRecDepth 100000 in
theorem answered_any (xs : List Int) (v : Value) (w : World) (h : Bys w v xs) :
    Calls Try.prog 15 #[v] w (AndE xs w) := by
  have HB : Hid (Bk (w.alloc (.cells #[.int .i64 0, .int .i64 0] 30)) w.heap.size [.int .i64 0, .int .i64 0] ∧ Below w.heap.size w (w.alloc (.cells #[.int .i64 0, .int .i64 0] 30))) := ⟨Bk.new w _ _, below_b1 _ _⟩
  have HV : Hid ((∀ y, Below w.heap.size w y → Bys y v xs) ∧ ∀ i, i < xs.length → 0 ≤ xs.getD i 0 ∧ xs.getD i 0 ≤ 255) := ⟨fun y hy => h.later hy, h.bd⟩
  obtain ⟨a, cap, rfl, h1, h2, h3, h4, h5⟩ := h
  clear h3 h4
  by_cases c7 : xs.length = 7
  rotate_left
  · have HR : Hid (IsAns xs 0 0 false) := isAns_long c7
    have c8 : ((xs.length : Int) != 7) = true := by simp; omega
    clear h5 c7
    go_enter Try.func15, Try.ntmps15
    go_wp2_with fail
    refine bodyPost_ret (v := .tuple #[.agg #[.int .i64 0, .int .i64 0], .bool false]) ?_ rfl ⟨0, 0, false, rfl, HR.out, HB.out.2⟩
    simp [results, Try.results15, go_sem]
  have HC7 : Hid (xs.length = 7) := c7
  obtain ⟨bb, oo, rfl, _⟩ := h5 (by intro e; rw [e] at c7; simp at c7)
  rw [c7] at HV h1 ⊢
  have HF : Hid (∀ y, Below w.heap.size w y → Bys y (.slice (some ⟨bb, oo, none⟩) 1 cap) (xs.take 1) ∧ Bys y (.slice (some ⟨bb, oo + 1, none⟩) 6 (cap - 1)) (xs.drop 1)) := fun y hy => by
    refine ⟨?_, ?_⟩
    · have := (HV.out.1 y hy).fore (S := 1) (by omega)
      rw [List.length_take, c7] at this
      exact this
    · have := (HV.out.1 y hy).rest1 (S := 1) (by omega) (oo + 1) (fun _ => rfl)
      rw [c7] at this
      exact this
  have hc1 : (1 : Int) < cap := by omega
  have hc2 : (1 : Int) ≤ cap := by omega
  have hc3 : 1 < cap := by omega
  have hc4 : 1 ≤ cap := by omega
  have hl1 : (xs.take 1).length = 1 := by rw [List.length_take]; omega
  have hl6 : (xs.drop 1).length = 6 := by rw [List.length_drop]; omega
  obtain ⟨x0, hx0⟩ : ∃ x0, xs.getD 0 0 = x0 := ⟨_, rfl⟩
  obtain ⟨nn, hnn⟩ : ∃ nn, adN xs = nn := ⟨_, rfl⟩
  have HL : Hid ((xs.take 1).length = 1 ∧ (xs.drop 1).length = 6 ∧ nuP (xs.take 1) 1 = x0 ∧ nuP (xs.drop 1) 6 = nn) := ⟨hl1, hl6, by rw [nu_1 c7, hx0], by rw [nu_6 c7, hnn]⟩
  have HR : Hid (IsAns xs (if anB x0 nn = true then x0 else 0) (if anB x0 nn = true then nn else 0) (anB x0 nn)) := by
    have hb : ∀ x ∈ xs, 0 ≤ x ∧ x ≤ 255 := fun x hx => by
      obtain ⟨j, hj, e⟩ := List.getElem_of_mem hx
      have := HV.out.2 j (by omega)
      rw [List.getD_eq_getElem?_getD, List.getElem?_eq_getElem hj] at this
      rw [← e]; exact this
    have := isAns_read HC7.out hb
    rw [hx0, hnn] at this
    exact this
  have HB1 : Hid (Below w.heap.size w (w.alloc (.cells #[.int .i64 0, .int .i64 0] 30)).drew) := HB.out.2.drew
  obtain ⟨p0, p1⟩ := HB.out.1.c2
  clear c7 h5 hl1 hl6 hx0 hnn
  go_enter Try.func15, Try.ntmps15
  go_upto_region 3 with fail
  generalize hW : (w.alloc (.cells #[.int .i64 0, .int .i64 0] 30)) = W at *
  have hWs : W.heap.size = w.heap.size + 1 := by rw [← hW]; simp
  clear hW
  have HB2 : Hid (Below w.heap.size w (W.alloc (.cells #[.int .i64 0, .int .i64 0] 30)).drew) := (HB.out.2.alloc HB.out.2.size _).drew
  go_region_with (first
      | (go_at_call_of 26 (Value.slice (some (Addr.mk bb oo none)) 1 cap); refine (number_any (xs.take 1) _ _ (HF.out _ (by first | exact HB1.out | exact HB2.out)).1 (by rw [HL.out.1]; omega)).mono ?_; rintro e w2 ⟨rfl, rfl⟩; rw [HL.out.1, HL.out.2.2.1])
      | (go_at_call 26; refine (number_any (xs.drop 1) _ _ (HF.out _ (by first | exact HB1.out | exact HB2.out)).2 (by rw [HL.out.2.1]; omega)).mono ?_; rintro e w2 ⟨rfl, rfl⟩; rw [HL.out.2.1, HL.out.2.2.2]))
  all_goals
    have HX : Hid (Bk (W.alloc (.cells #[.int .i64 x0, .int .i64 nn] 30)).drew (w.heap.size + 1) [.int .i64 x0, .int .i64 nn] ∧ Bk (W.alloc (.cells #[.int .i64 x0, .int .i64 nn] 30)).drew w.heap.size [.int .i64 0, .int .i64 0] ∧ Below w.heap.size w (W.alloc (.cells #[.int .i64 x0, .int .i64 nn] 30)).drew) := by
      refine ⟨?_, (HB.out.1.later (below_b1 _ _)).later (Below.refl _ _).drew, (HB.out.2.alloc HB.out.2.size _).drew⟩
      have h := (Bk.new W [.int .i64 x0, .int .i64 nn] 30).later (Below.refl _ _).drew
      rw [hWs] at h
      exact h
    generalize (W.alloc (.cells #[.int .i64 x0, .int .i64 nn] 30)).drew = W3 at *
    clear HB HB1 HB2 p0 p1
    obtain ⟨y, hy⟩ : ∃ y, anB x0 nn = y := ⟨_, rfl⟩
    have HA : Hid (anB x0 nn = y) := hy
    rw [hy] at HR
    clear hy
    have c0 : W3.cell? ⟨w.heap.size + 1, 0, none⟩ = some (.int .i64 x0) := HX.out.1.cell rfl
    have c1 : W3.cell? ⟨w.heap.size + 1, 1, none⟩ = some (.int .i64 nn) := HX.out.1.cell rfl
    go_wp2_with fail
    refine (amay_any x0 nn _).mono ?_
    rintro e w9 ⟨rfl, hb9⟩
    rw [HA.out]
    have HY : Hid (Bk w9 (w.heap.size + 1) [.int .i64 x0, .int .i64 nn] ∧ Bk w9 w.heap.size [.int .i64 0, .int .i64 0] ∧ Below w.heap.size w w9) := ⟨HX.out.1.later hb9, HX.out.2.1.later hb9, HX.out.2.2.trans (hb9.mono HX.out.2.2.size)⟩
    clear hb9 HX c0 c1
    obtain ⟨a0, a1⟩ := HY.out.1.c2
    obtain ⟨z0, z1⟩ := HY.out.2.1.c2
    obtain ⟨f0, f1⟩ := HY.out.2.1.f2
    cases y with
    | false =>
      have HP : Hid (Bk ((w9.setCell ⟨w.heap.size, 0, none⟩ (.int .i64 0)).setCell ⟨w.heap.size, 1, none⟩ (.int .i64 0)) w.heap.size [.int .i64 0, .int .i64 0] ∧ Below w.heap.size w ((w9.setCell ⟨w.heap.size, 0, none⟩ (.int .i64 0)).setCell ⟨w.heap.size, 1, none⟩ (.int .i64 0))) := ⟨(HY.out.2.1.set 0 _).set 1 _, (HY.out.2.2.setCell (p := ⟨w.heap.size, 0, none⟩) (Nat.le_refl _) _).setCell (p := ⟨w.heap.size, 1, none⟩) (Nat.le_refl _) _⟩
      go_wp2_with fail
      generalize ((w9.setCell ⟨w.heap.size, 0, none⟩ (.int .i64 0)).setCell ⟨w.heap.size, 1, none⟩ (.int .i64 0)) = W9 at *
      obtain ⟨p0, p1⟩ := HP.out.1.c2
      refine bodyPost_ret (v := .tuple #[.agg #[.int .i64 0, .int .i64 0], .bool false]) ?_ rfl ⟨0, 0, false, rfl, HR.out, HP.out.2⟩
      simp [results, Try.results15, go_sem, p0, p1]
    | true =>
      have HP : Hid (Bk ((w9.setCell ⟨w.heap.size, 0, none⟩ (.int .i64 x0)).setCell ⟨w.heap.size, 1, none⟩ (.int .i64 nn)) w.heap.size [.int .i64 x0, .int .i64 nn] ∧ Below w.heap.size w ((w9.setCell ⟨w.heap.size, 0, none⟩ (.int .i64 x0)).setCell ⟨w.heap.size, 1, none⟩ (.int .i64 nn))) := ⟨(HY.out.2.1.set 0 _).set 1 _, (HY.out.2.2.setCell (p := ⟨w.heap.size, 0, none⟩) (Nat.le_refl _) _).setCell (p := ⟨w.heap.size, 1, none⟩) (Nat.le_refl _) _⟩
      go_wp2_with fail
      generalize ((w9.setCell ⟨w.heap.size, 0, none⟩ (.int .i64 x0)).setCell ⟨w.heap.size, 1, none⟩ (.int .i64 nn)) = W9 at *
      obtain ⟨p0, p1⟩ := HP.out.1.c2
      refine bodyPost_ret (v := .tuple #[.agg #[.int .i64 x0, .int .i64 nn], .bool true]) ?_ rfl ⟨x0, nn, true, rfl, HR.out, HP.out.2⟩
      simp [results, Try.results15, go_sem, p0, p1]
end Go.Proofs.Yteklcolphbcjlaa
/- What may be answered is got; bytes that answer are those of what they answer. -/
namespace Go.Proofs.Yteklcolphbcjlaa
open Go.RowKit

def repB (e n e' n' : Int) : Bool := decide (e = e' ∧ n = n')
theorem repB_self (e n : Int) : repB e n e n = true := by simp [repB]
theorem rep_eql (e n e' n' : Int) (w : World) : (binOp .eql 30 (.agg #[.int .i64 e, .int .i64 n]) (.agg #[.int .i64 e', .int .i64 n'])).run Try.prog w = .ok (.bool (repB e n e' n')) w := by
  unfold repB
  by_cases h0 : e = e'
  rotate_left
  · simp [go_sem, h0]
  by_cases h1 : n = n'
  rotate_left
  · simp [go_sem, h0, h1]
  simp [go_sem, h0, h1]
theorem rep_neq (e n e' n' : Int) (w : World) : (binOp .neq 30 (.agg #[.int .i64 e, .int .i64 n]) (.agg #[.int .i64 e', .int .i64 n'])).run Try.prog w = .ok (.bool (!repB e n e' n')) w := by
  unfold repB
  by_cases h0 : e = e'
  rotate_left
  · simp [go_sem, h0]
  by_cases h1 : n = n'
  rotate_left
  · simp [go_sem, h0, h1]
  simp [go_sem, h0, h1]
theorem ano_bys {w : World} {B : Nat} {v : Value} {e n : Int} (h : OwY w B v (anO e n)) : Bys w v (anO e n) := byL B h fun x hx => by
  unfold anO at hx
  cases c : anB e n with
  | true => rw [c] at hx; exact an_bytes c x hx
  | false => rw [c] at hx; cases hx
theorem bys_all {w : World} {v : Value} {xs : List Int} (h : Bys w v xs) : ∀ x ∈ xs, 0 ≤ x ∧ x ≤ 255 := fun x hx => by
  obtain ⟨j, hj, e⟩ := List.getElem_of_mem hx
  have := h.bd j hj
  rw [List.getD_eq_getElem?_getD, List.getElem?_eq_getElem hj] at this
  rw [← e]; exact this
set_option maxHeartbeats 4000000 in
set_option maxRecDepth 100000 in
theorem law_wans16 (e n : Int) (xs : List Int) (v : Value) (w : World) (h : Bys w v xs) :
    Calls Try.prog 5 #[.agg #[.int .i64 e, .int .i64 n], v] w fun r w' => r = .returned (.bool true) ∧ Below w.heap.size w w' := by
  have HB : Hid (Bk (w.alloc (.cells #[.int .i64 e, .int .i64 n] 30)) w.heap.size [.int .i64 e, .int .i64 n] ∧ Below w.heap.size w (w.alloc (.cells #[.int .i64 e, .int .i64 n] 30))) := ⟨Bk.new w _ _, below_b1 _ _⟩
  have HV : Hid (∀ y, Below w.heap.size w y → Bys y v xs) := fun y hy => h.later hy
  obtain ⟨a, cap, rfl, h1, h2, h3, h4, h5⟩ := h
  clear h1 h2 h3 h4 h5
  go_enter Try.func5, Try.ntmps5
  go_wp2_with fail
  refine (awake16_any _).mono ?_
  rintro r w1 ⟨rfl, hb1⟩
  have HC : Hid (Bk w1 w.heap.size [.int .i64 e, .int .i64 n] ∧ Below w.heap.size w w1) := ⟨HB.out.1.later hb1, HB.out.2.trans (hb1.mono HB.out.2.size)⟩
  clear hb1 HB
  by_cases cl : xs.length ≤ 100
  rotate_left
  · have cl' : (100 : Int) < xs.length := by omega
    have cl2 : 100 < xs.length := by omega
    go_wp2_with fail
    go_ret
    exact ⟨rfl, HC.out.2⟩
  have cl' : ¬ (100 : Int) < xs.length := by omega
  have cl2 : ¬ 100 < xs.length := by omega
  have HL : Hid (xs.length ≤ 100) := cl
  clear cl
  obtain ⟨e0, e1⟩ := HC.out.1.c2
  go_wp2_with fail
  refine (answer_any e n _).mono ?_
  rintro r w2 ⟨v2, rfl, ho2, hb2⟩
  have HD : Hid (Bk w2 w.heap.size [.int .i64 e, .int .i64 n] ∧ Below w.heap.size w w2 ∧ Bys w2 v2 (anO e n)) := ⟨HC.out.1.later hb2, HC.out.2.trans (hb2.mono HC.out.2.size), ano_bys ho2⟩
  obtain ⟨a2, c2, rfl⟩ := ho2.sl
  clear ho2 hb2 HC e0 e1
  cases hm : anB e n with
  | false =>
    clear hm
    go_wp2_with fail
    refine (answered_any xs _ _ (HV.out _ HD.out.2.1)).mono ?_
    rintro r w4 ⟨e4, n4, y4, rfl, hi4, hb4⟩
    have HE : Hid (Below w.heap.size w (w4.alloc (.cells #[.int .i64 e4, .int .i64 n4] 30)) ∧ IsAns xs e4 n4 y4) := ⟨((HD.out.2.1).trans (hb4.mono (HD.out.2.1).size)).alloc ((HD.out.2.1).trans (hb4.mono (HD.out.2.1).size)).size _, hi4⟩
    clear hb4 hi4 HD
    go_wp2_with fail
    refine (answer_any e4 n4 _).mono ?_
    rintro r w5 ⟨v5, rfl, ho5, hb5⟩
    have HG : Hid (Below w.heap.size w w5 ∧ Bys w5 v5 (anO e4 n4)) := ⟨HE.out.1.trans (hb5.mono HE.out.1.size), ano_bys ho5⟩
    clear ho5 hb5
    rcases HE.out.2 with ⟨rfl, ha4, hx4⟩ | ⟨rfl, ⟨rfl, rfl⟩, _⟩
    · have hao : anO e4 n4 = xs := by unfold anO; rw [ha4]; exact hx4
      rw [ha4]
      rw [hao] at HG
      clear hao hx4 ha4 HE
      go_wp2_with fail
      refine (bytes_any xs xs _ _ _ HG.out.2 (HV.out _ HG.out.1) (by have := HL.out; omega)).mono ?_
      rintro r w6 ⟨rfl, hb6⟩
      have hs : sameB xs xs = true := by simp [sameB]
      rw [hs]
      have HZ := HG.out.1.trans (hb6.mono HG.out.1.size)
      clear hb6 HG hs
      go_wp2_with fail
      go_ret
      exact ⟨rfl, HZ⟩
    · clear HE
      go_wp2_with fail
      go_ret
      exact ⟨rfl, HG.out.1⟩
  | true =>
    have hao : anO e n = anL e n := by unfold anO; rw [hm]; rfl
    have hid : IsAns (anL e n) e n true := .inl ⟨rfl, hm, rfl⟩
    rw [hao] at HD ⊢
    clear hao hm
    go_wp2_with fail
    refine (answered_any (anL e n) _ _ HD.out.2.2).mono ?_
    rintro r w3 ⟨e3, n3, y3, rfl, hi3, hb3⟩
    obtain ⟨⟨rfl, rfl⟩, rfl⟩ := hi3.unique hid
    have HD3 : Hid (Bk (w3.alloc (.cells #[.int .i64 e3, .int .i64 n3] 30)) w.heap.size [.int .i64 e3, .int .i64 n3] ∧ Bk (w3.alloc (.cells #[.int .i64 e3, .int .i64 n3] 30)) w3.heap.size [.int .i64 e3, .int .i64 n3] ∧ Below w.heap.size w (w3.alloc (.cells #[.int .i64 e3, .int .i64 n3] 30))) := ⟨(HD.out.1.later hb3).later (below_b1 _ _), Bk.new _ _ _, (HD.out.2.1.trans (hb3.mono HD.out.2.1.size)).alloc (HD.out.2.1.trans (hb3.mono HD.out.2.1.size)).size _⟩
    have hN : ∀ w, (binOp .neq 30 (.agg #[.int .i64 e3, .int .i64 n3]) (.agg #[.int .i64 e3, .int .i64 n3])).run Try.prog w = .ok (.bool false) w := fun w => by rw [rep_neq, repB_self]; rfl
    have hln : (anL e3 n3).length = 7 := rfl
    rw [hln]
    clear hb3 HD hi3 hid hln
    go_wp2_with (first
      | (refine load_bkG rfl 30 _ rfl w3.heap.size 0 [.int .i64 e3, .int .i64 n3] [.int .i64 e3, .int .i64 n3] rfl HD3.out.2.1 rfl _ Try.underlying30 rfl (by kernel_rfl) ?_)
      | (refine load_bkG rfl 30 _ rfl w.heap.size 0 [.int .i64 e3, .int .i64 n3] [.int .i64 e3, .int .i64 n3] rfl HD3.out.1 rfl _ Try.underlying30 rfl (by kernel_rfl) ?_))
    have HD : Hid (Below w.heap.size w (w3.alloc (.cells #[.int .i64 e3, .int .i64 n3] 30))) := HD3.out.2.2
    clear HD3 hN
    refine (answered_any xs _ _ (HV.out _ HD.out)).mono ?_
    rintro r w4 ⟨e4, n4, y4, rfl, hi4, hb4⟩
    have HE : Hid (Below w.heap.size w (w4.alloc (.cells #[.int .i64 e4, .int .i64 n4] 30)) ∧ IsAns xs e4 n4 y4) := ⟨((HD.out).trans (hb4.mono (HD.out).size)).alloc ((HD.out).trans (hb4.mono (HD.out).size)).size _, hi4⟩
    clear hb4 hi4 HD
    go_wp2_with fail
    refine (answer_any e4 n4 _).mono ?_
    rintro r w5 ⟨v5, rfl, ho5, hb5⟩
    have HG : Hid (Below w.heap.size w w5 ∧ Bys w5 v5 (anO e4 n4)) := ⟨HE.out.1.trans (hb5.mono HE.out.1.size), ano_bys ho5⟩
    clear ho5 hb5
    rcases HE.out.2 with ⟨rfl, ha4, hx4⟩ | ⟨rfl, ⟨rfl, rfl⟩, _⟩
    · have hao : anO e4 n4 = xs := by unfold anO; rw [ha4]; exact hx4
      rw [ha4]
      rw [hao] at HG
      clear hao hx4 ha4 HE
      go_wp2_with fail
      refine (bytes_any xs xs _ _ _ HG.out.2 (HV.out _ HG.out.1) (by have := HL.out; omega)).mono ?_
      rintro r w6 ⟨rfl, hb6⟩
      have hs : sameB xs xs = true := by simp [sameB]
      rw [hs]
      have HZ := HG.out.1.trans (hb6.mono HG.out.1.size)
      clear hb6 HG hs
      go_wp2_with fail
      go_ret
      exact ⟨rfl, HZ⟩
    · clear HE
      go_wp2_with fail
      go_ret
      exact ⟨rfl, HG.out.1⟩
end Go.Proofs.Yteklcolphbcjlaa
