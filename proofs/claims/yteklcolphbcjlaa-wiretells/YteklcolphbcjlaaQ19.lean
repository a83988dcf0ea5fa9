/- Texts that belong together, one behind the other: BB27, BB28. -/
import Derived.Test.YteklcolphbcjlaaQ18
import Derived.Laws.BytesArg
import Derived.Lib.Bytes
/- Walks of the document's own Get: what it reads, and the ends. -/
namespace Go.Proofs.Yteklcolphbcjlaa
open Go.RowKit

theorem conv16 {w : World} {v : Value} {xs : List Int} (h : Bys w v xs) (hne : xs ≠ []) : (convert 27 9 v).run Try.prog w = .ok (.string (strOfNums xs)) w := by
  obtain ⟨a, cap, rfl, h1, h2, h3, h4, h5⟩ := h
  obtain ⟨b, o, rfl, h6⟩ := h5 hne
  exact run_convert_bytes_arg w 27 5 Try.underlying27 Try.underlying5 b o xs.length cap xs rfl h6 9 Try.underlying9
theorem str_inj : ∀ (xs ys : List Int), (∀ x ∈ xs, 0 ≤ x ∧ x ≤ 255) → (∀ y ∈ ys, 0 ≤ y ∧ y ≤ 255) → (strOfNums xs).toList = (strOfNums ys).toList → xs = ys := by
  intro xs ys hx hy h
  have h1 : xs.map (fun n => UInt8.ofNat n.toNat) = ys.map (fun n => UInt8.ofNat n.toNat) := by
    rw [Lib.strOfNums_toList, Lib.strOfNums_toList] at h
    exact h
  refine List.ext_getElem? fun i => ?_
  have h2 : (xs.map (fun n => UInt8.ofNat n.toNat))[i]? = (ys.map (fun n => UInt8.ofNat n.toNat))[i]? := by rw [h1]
  rw [List.getElem?_map, List.getElem?_map] at h2
  cases hx1 : xs[i]? with
  | none =>
    cases hy1 : ys[i]? with
    | none => rfl
    | some b => rw [hx1, hy1] at h2; cases h2
  | some a =>
    cases hy1 : ys[i]? with
    | none => rw [hx1, hy1] at h2; cases h2
    | some b =>
      rw [hx1, hy1] at h2
      have ha := hx a (List.mem_of_getElem? hx1)
      have hb := hy b (List.mem_of_getElem? hy1)
      have h3 : UInt8.ofNat a.toNat = UInt8.ofNat b.toNat := by simpa using h2
      have h4 := congrArg UInt8.toNat h3
      rw [UInt8.toNat_ofNat', UInt8.toNat_ofNat'] at h4
      have e : a = b := by omega
      rw [e]
theorem OwY.rd {w : World} {B : Nat} {v : Value} {xs : List Int} (h : OwY w B v xs) (hne : xs ≠ []) : ∃ g cap, v = .slice (some ⟨g, 0, none⟩) xs.length cap ∧ B ≤ g ∧ Bk w g (bv8 xs) := by
  have hcopy := h
  obtain ⟨_, ⟨rfl, hz⟩ | ⟨g, cap, cur, rfl, hg, hh, h1, h2, _⟩⟩ := h
  · exact absurd (List.eq_nil_of_length_eq_zero hz) hne
  · exact ⟨g, cap, rfl, hg, fun i hi => ⟨World.ownsRow.cellAt hcopy i (by rw [bv8_len] at hi; omega), World.ownsRow.frozenAt hcopy i⟩⟩
/-- Bytes behind the first, and zeros. -/
def padB (xs : List Int) : List Int := xs.drop 1 ++ [0, 0, 0, 0, 0, 0]
theorem padB_len (xs : List Int) : 6 ≤ (padB xs).length := by simp [padB]
theorem padB_at {xs : List Int} {i : Nat} (hi : i < 6) : (bv8 (padB xs))[i]? = some (.int .u8 (xs.getD (i + 1) 0)) := by
  rw [bv8_at (by have := padB_len xs; omega)]
  unfold padB
  rw [pad_at xs i hi]
theorem bd_all {xs : List Int} (hb : ∀ i, i < xs.length → 0 ≤ xs.getD i 0 ∧ xs.getD i 0 ≤ 255) (i : Nat) : 0 ≤ xs.getD i 0 ∧ xs.getD i 0 ≤ 255 := by
  by_cases h : i < xs.length
  · exact hb i h
  · rw [List.getD_eq_getElem?_getD, List.getElem?_eq_none (by omega)]
    exact ⟨Int.le_refl _, by decide⟩
theorem odG_0 {xs : List Int} (h : xs.getD 0 0 = 0) : odG xs = ⟨0, 0, ⟨xs.getD 1 0, xs.getD 2 0, xs.getD 3 0, xs.getD 4 0, xs.getD 5 0, xs.getD 6 0⟩, 0, 0, 0, 0, 0, []⟩ := by
  unfold odG odR
  simp only [h]
  rfl
theorem odG_1 {xs : List Int} (h : xs.getD 0 0 = 1) : odG xs = ⟨1, xs.getD 1 0 * 256 + xs.getD 2 0, ⟨0, 0, 0, 0, 0, 0⟩, xs.getD 3 0, xs.getD 4 0, 0, 0, 0, []⟩ := by
  unfold odG odR
  simp only [h]
  rfl
theorem odG_2 {xs : List Int} (h : xs.getD 0 0 = 2) : odG xs = ⟨2, xs.getD 1 0 * 256 + xs.getD 2 0, ⟨0, 0, 0, 0, 0, 0⟩, 0, 0, 0, 0, 0, []⟩ := by
  unfold odG odR
  simp only [h]
  rfl
theorem odG_3 {xs : List Int} (h : xs.getD 0 0 = 3) : odG xs = ⟨3, 0, ⟨0, 0, 0, 0, 0, 0⟩, 0, 0, xs.getD 1 0, xs.getD 2 0, xs.getD 3 0 * 256 + xs.getD 4 0, []⟩ := by
  unfold odG odR
  simp only [h]
  rfl
theorem odG_4 {xs : List Int} (h : xs.getD 0 0 = 4) : odG xs = ⟨4, 0, ⟨0, 0, 0, 0, 0, 0⟩, 0, 0, 0, 0, 0, xs.drop 2⟩ := by
  unfold odG odR
  simp only [h]
  rfl
theorem odG_far {xs : List Int} {k : Int} (h : xs.getD 0 0 = k) (hk : 5 ≤ k) : odG xs = ⟨k, 0, ⟨0, 0, 0, 0, 0, 0⟩, 0, 0, 0, 0, 0, []⟩ := by
  unfold odG
  rw [h, if_neg (by omega)]
theorem get_no {xs : List Int} {o : Ow} (ho : odG xs = o) (h : omB o = false) : IsGet xs owZ false := by
  have := isGet_readG xs
  rw [ho, if_neg (fun e => by rw [h] at e; cases e.1), decide_eq_false (fun e => by rw [h] at e; cases e.1)] at this
  exact this
theorem get_ne {xs : List Int} {o : Ow} (ho : odG xs = o) (h : obL o ≠ xs) : IsGet xs owZ false := by
  have := isGet_readG xs
  rw [ho, if_neg (fun e => h e.2), decide_eq_false (fun e => h e.2)] at this
  exact this
theorem get_is {xs : List Int} {o : Ow} (h : omB o = true) (hx : obL o = xs) : IsGet xs o true := .inl ⟨rfl, h, hx⟩
theorem post27 {w W w25 w27 : World} {o : Obj} {xs : List Int} {v27 : Value} {zk zz : List Value} (h1 : Bk W w.heap.size zz) (h2 : Bk W (w.heap.size + 1) zk) (hw : Below w.heap.size w W) (hW : W.heap.size = w.heap.size + 2) (hb25 : Below (w.heap.size + 2) W w25) (hb27 : Below (w.heap.size + 2) (w25.alloc o) w27) (ho : OwY w27 (w.heap.size + 2) v27 (([] ++ xs.drop 1) ++ [0, 0, 0, 0, 0, 0])) :
    ∃ g cg m, v27 = .slice (some ⟨g, 0, none⟩) m cg ∧ 6 ≤ m ∧ w.heap.size + 2 ≤ g ∧ Bk w27 g (bv8 (padB xs)) ∧ Bk w27 (w.heap.size + 1) zk ∧ Bk w27 w.heap.size zz ∧ Below w.heap.size w w27 := by
  have hs := hb25.size
  have hb2 : Below (w.heap.size + 2) W w27 := hb25.trans (((Below.refl _ _).alloc (by omega) _).trans hb27)
  obtain ⟨g, cg, ev, hg, hbg⟩ := OwY.rd (xs := padB xs) ho (by intro e; have := padB_len xs; rw [e] at this; simp at this)
  exact ⟨g, cg, _, ev, padB_len xs, hg, hbg, h2.keep hb2 (by omega), h1.keep hb2 (by omega), hw.trans (hb2.mono (by omega))⟩
set_option maxHeartbeats 8000000 in
set_option maxRecDepth 100000 in
theorem roget16_2 (xs : List Int) (v : Value) (w : World) (h : Bys w v xs) (hl : 0 < xs.length) (hl20 : xs.length ≤ 20) (h0 : xs.getD 0 0 = 2)  :
    Calls Try.prog 12 #[v] w (GetE xs w) := by
  have HV : Hid ((∀ y, Below w.heap.size w y → Bys y v xs) ∧ 0 < xs.length ∧ xs.getD 0 0 = 2 ∧ xs.length ≤ 20) := ⟨fun y hy => h.later hy, hl, h0, hl20⟩
  obtain ⟨a, cap, rfl, h1, h2, h3, h4, h5⟩ := h
  obtain ⟨bb, oo, rfl, h6⟩ := h5 (by intro e; rw [e] at hl; simp at hl)
  have HD : Hid (∀ i, i < xs.length → 0 ≤ xs.getD i 0 ∧ xs.getD i 0 ≤ 255) := h4
  have HB : Hid (Bk ((w.alloc (.cells #[.int .i64 0, .int .i64 0, .int .i64 0, .int .i64 0, .int .i64 0, .int .i64 0, .int .i64 0, .int .i64 0, .int .i64 0, .int .i64 0, .int .i64 0, .int .i64 0, .int .i64 0, .slice none 0 0] 26)).alloc (.cells #[.int .i64 2, .int .i64 0, .int .i64 0, .int .i64 0, .int .i64 0, .int .i64 0, .int .i64 0, .int .i64 0, .int .i64 0, .int .i64 0, .int .i64 0, .int .i64 0, .int .i64 0, .slice none 0 0] 26)) w.heap.size [.int .i64 0, .int .i64 0, .int .i64 0, .int .i64 0, .int .i64 0, .int .i64 0, .int .i64 0, .int .i64 0, .int .i64 0, .int .i64 0, .int .i64 0, .int .i64 0, .int .i64 0, .slice none 0 0] ∧ Bk ((w.alloc (.cells #[.int .i64 0, .int .i64 0, .int .i64 0, .int .i64 0, .int .i64 0, .int .i64 0, .int .i64 0, .int .i64 0, .int .i64 0, .int .i64 0, .int .i64 0, .int .i64 0, .int .i64 0, .slice none 0 0] 26)).alloc (.cells #[.int .i64 2, .int .i64 0, .int .i64 0, .int .i64 0, .int .i64 0, .int .i64 0, .int .i64 0, .int .i64 0, .int .i64 0, .int .i64 0, .int .i64 0, .int .i64 0, .int .i64 0, .slice none 0 0] 26)) (w.heap.size + 1) [.int .i64 2, .int .i64 0, .int .i64 0, .int .i64 0, .int .i64 0, .int .i64 0, .int .i64 0, .int .i64 0, .int .i64 0, .int .i64 0, .int .i64 0, .int .i64 0, .int .i64 0, .slice none 0 0] ∧ Below w.heap.size w ((w.alloc (.cells #[.int .i64 0, .int .i64 0, .int .i64 0, .int .i64 0, .int .i64 0, .int .i64 0, .int .i64 0, .int .i64 0, .int .i64 0, .int .i64 0, .int .i64 0, .int .i64 0, .int .i64 0, .slice none 0 0] 26)).alloc (.cells #[.int .i64 2, .int .i64 0, .int .i64 0, .int .i64 0, .int .i64 0, .int .i64 0, .int .i64 0, .int .i64 0, .int .i64 0, .int .i64 0, .int .i64 0, .int .i64 0, .int .i64 0, .slice none 0 0] 26)) ∧ Below w.heap.size w (w.alloc (.cells #[.int .i64 0, .int .i64 0, .int .i64 0, .int .i64 0, .int .i64 0, .int .i64 0, .int .i64 0, .int .i64 0, .int .i64 0, .int .i64 0, .int .i64 0, .int .i64 0, .int .i64 0, .slice none 0 0] 26)) ∧ ((w.alloc (.cells #[.int .i64 0, .int .i64 0, .int .i64 0, .int .i64 0, .int .i64 0, .int .i64 0, .int .i64 0, .int .i64 0, .int .i64 0, .int .i64 0, .int .i64 0, .int .i64 0, .int .i64 0, .slice none 0 0] 26)).alloc (.cells #[.int .i64 2, .int .i64 0, .int .i64 0, .int .i64 0, .int .i64 0, .int .i64 0, .int .i64 0, .int .i64 0, .int .i64 0, .int .i64 0, .int .i64 0, .int .i64 0, .int .i64 0, .slice none 0 0] 26)).heap.size = w.heap.size + 2) := ⟨(Bk.new w _ _).later (below_b1 _ _), (by have := Bk.new (w.alloc (.cells #[.int .i64 0, .int .i64 0, .int .i64 0, .int .i64 0, .int .i64 0, .int .i64 0, .int .i64 0, .int .i64 0, .int .i64 0, .int .i64 0, .int .i64 0, .int .i64 0, .int .i64 0, .slice none 0 0] 26)) [.int .i64 2, .int .i64 0, .int .i64 0, .int .i64 0, .int .i64 0, .int .i64 0, .int .i64 0, .int .i64 0, .int .i64 0, .int .i64 0, .int .i64 0, .int .i64 0, .int .i64 0, .slice none 0 0] 26; simp only [World.size_alloc] at this; exact this), below_b2 _ _ _, below_b1 _ _, by simp⟩
  have e0 := cell_later HB.out.2.2.2.1 (h6 0 hl)
  rw [Nat.add_zero, h0] at e0
  have bk := h4 0 hl
  rw [h0] at bk
  have wk : IntKind.i64.wrap 2 = 2 := by rw [IntKind.wrap_i64]; omega
  have c0' : ((xs.length : Int) == 0) = false := beq_eq_false_iff_ne.2 (by omega)
  have c20 : ¬ (20 : Int) < xs.length := by omega
  have hln : (0 : Int) < xs.length := by omega
  have h1c : (1 : Int) ≤ cap := by omega
  have h1d : (1 : Int) ≤ xs.length := by omega
  have HX : Hid (xs.getD 1 0 = xs.getD 1 0) := rfl
  obtain ⟨x1, hx1⟩ : ∃ x, xs.getD 1 0 = x := ⟨_, rfl⟩
  obtain ⟨x2, hx2⟩ : ∃ x, xs.getD 2 0 = x := ⟨_, rfl⟩
  obtain ⟨x3, hx3⟩ : ∃ x, xs.getD 3 0 = x := ⟨_, rfl⟩
  obtain ⟨x4, hx4⟩ : ∃ x, xs.getD 4 0 = x := ⟨_, rfl⟩
  obtain ⟨x5, hx5⟩ : ∃ x, xs.getD 5 0 = x := ⟨_, rfl⟩
  obtain ⟨x6, hx6⟩ : ∃ x, xs.getD 6 0 = x := ⟨_, rfl⟩
  have y1 := bd_all HD.out 1
  have y2 := bd_all HD.out 2
  have y3 := bd_all HD.out 3
  have y4 := bd_all HD.out 4
  have y5 := bd_all HD.out 5
  have y6 := bd_all HD.out 6
  rw [hx1] at y1
  rw [hx2] at y2
  rw [hx3] at y3
  rw [hx4] at y4
  rw [hx5] at y5
  rw [hx6] at y6
  have u1 : IntKind.i64.wrap x1 = x1 := by rw [IntKind.wrap_i64]; omega
  have u2 : IntKind.i64.wrap x2 = x2 := by rw [IntKind.wrap_i64]; omega
  have u3 : IntKind.i64.wrap x3 = x3 := by rw [IntKind.wrap_i64]; omega
  have u4 : IntKind.i64.wrap x4 = x4 := by rw [IntKind.wrap_i64]; omega
  have u5 : IntKind.i64.wrap x5 = x5 := by rw [IntKind.wrap_i64]; omega
  have u6 : IntKind.i64.wrap x6 = x6 := by rw [IntKind.wrap_i64]; omega
  have p1 : IntKind.i64.wrap (x1 * 256) = x1 * 256 := by rw [IntKind.wrap_i64]; omega
  have p2 : IntKind.i64.wrap (x1 * 256 + x2) = x1 * 256 + x2 := by rw [IntKind.wrap_i64]; omega
  have p3 : IntKind.i64.wrap (x3 * 256) = x3 * 256 := by rw [IntKind.wrap_i64]; omega
  have p4 : IntKind.i64.wrap (x3 * 256 + x4) = x3 * 256 + x4 := by rw [IntKind.wrap_i64]; omega
  have HXS : Hid (xs.getD 1 0 = x1 ∧ xs.getD 2 0 = x2 ∧ xs.getD 3 0 = x3 ∧ xs.getD 4 0 = x4 ∧ xs.getD 5 0 = x5 ∧ xs.getD 6 0 = x6) := ⟨hx1, hx2, hx3, hx4, hx5, hx6⟩
  have HO : Hid (odG xs = ⟨2, x1 * 256 + x2, ⟨0, 0, 0, 0, 0, 0⟩, 0, 0, 0, 0, 0, []⟩) := by show _ = _; rw [odG_2 h0, hx1, hx2]
  clear h3 h4 h5 h6 h0 hx1 hx2 hx3 hx4 hx5 hx6 y1 y2 y3 y4 y5 y6 HX
  rcases Nat.lt_or_ge 1 cap with hc | hc
  case' inl =>
    have hc' : (1 : Int) < cap := by omega
    have HRV : Hid (∀ y, Below w.heap.size w y → Bys y (.slice (some ⟨bb, oo + 1, none⟩) (xs.length - 1) (cap - 1)) (xs.drop 1)) := fun y hy => (HV.out.1 y hy).rest1 (S := 1) HV.out.2.1 (oo + 1) (fun _ => rfl)
    go_enter Try.func12, Try.ntmps12
    go_upto_region 4 with fail
    generalize ((w.alloc (.cells #[.int .i64 0, .int .i64 0, .int .i64 0, .int .i64 0, .int .i64 0, .int .i64 0, .int .i64 0, .int .i64 0, .int .i64 0, .int .i64 0, .int .i64 0, .int .i64 0, .int .i64 0, .slice none 0 0] 26)).alloc (.cells #[.int .i64 2, .int .i64 0, .int .i64 0, .int .i64 0, .int .i64 0, .int .i64 0, .int .i64 0, .int .i64 0, .int .i64 0, .int .i64 0, .int .i64 0, .int .i64 0, .int .i64 0, .slice none 0 0] 26)) = W at *
    have hWb : w.heap.size + 2 ≤ W.heap.size := by have := HB.out.2.2.2.2; omega
    go_wp2_with (first
      | (at_builtin; have h27 := ho25; refine append_ys rfl _ _ rfl (w.heap.size + 2) _ _ _ [0, 0, 0, 0, 0, 0] rfl (h27.later (below_b1 _ (.cells #[.int .u8 0, .int .u8 0, .int .u8 0, .int .u8 0, .int .u8 0, .int .u8 0] 5))) rfl (byL 0 (owy_six _ 0 0 0 0 0 0 0 (Nat.zero_le _)) (fun x hx => by simp at hx; omega)) (by have := HV.out.2.2.2; simp; omega) (by have := hb25.size; simp; omega) ?_; intro v27 w27 ho27 hb27; refine Hid.out ?_)
      | (at_builtin; refine append_ys rfl _ _ rfl (w.heap.size + 2) (.slice none 0 0) _ [] (xs.drop 1) rfl (OwY.nil _ _) rfl (HRV.out _ HB.out.2.2.1) (by have := HV.out.2.2.2; simp; omega) hWb ?_; intro v25 w25 ho25 hb25))
    obtain ⟨g, cg, m, ev, hm6, hg, hbg, hpk, hpz, hbb⟩ := post27 HB.out.1 HB.out.2.1 HB.out.2.2.1 HB.out.2.2.2.2 hb25 hb27 ho27
    subst ev
    have b0 : (0 : Int) < m := by omega
    have b00 : 0 < m := by omega
    have b01 : 1 < m := by omega
    have b02 : 2 < m := by omega
    have b03 : 3 < m := by omega
    have b04 : 4 < m := by omega
    have b05 : 5 < m := by omega
    have b1 : (1 : Int) < m := by omega
    have b2 : (2 : Int) < m := by omega
    have b3 : (3 : Int) < m := by omega
    have b4 : (4 : Int) < m := by omega
    have b5 : (5 : Int) < m := by omega
    have HG : Hid (Bk w27 g (bv8 (padB xs)) ∧ Bk w27 (w.heap.size + 1) [.int .i64 2, .int .i64 0, .int .i64 0, .int .i64 0, .int .i64 0, .int .i64 0, .int .i64 0, .int .i64 0, .int .i64 0, .int .i64 0, .int .i64 0, .int .i64 0, .int .i64 0, .slice none 0 0] ∧ Bk w27 w.heap.size [.int .i64 0, .int .i64 0, .int .i64 0, .int .i64 0, .int .i64 0, .int .i64 0, .int .i64 0, .int .i64 0, .int .i64 0, .int .i64 0, .int .i64 0, .int .i64 0, .int .i64 0, .slice none 0 0] ∧ Below w.heap.size w w27 ∧ w.heap.size + 2 ≤ g) := ⟨hbg, hpk, hpz, hbb, hg⟩
    have n0 : w27.cell? ⟨g, 0, none⟩ = some (.int .u8 x1) := by rw [← HXS.out.1]; exact hbg.cell (padB_at (i := 0) (by decide))
    have n1 : w27.cell? ⟨g, 1, none⟩ = some (.int .u8 x2) := by rw [← HXS.out.2.1]; exact hbg.cell (padB_at (i := 1) (by decide))
    have n2 : w27.cell? ⟨g, 2, none⟩ = some (.int .u8 x3) := by rw [← HXS.out.2.2.1]; exact hbg.cell (padB_at (i := 2) (by decide))
    have n3 : w27.cell? ⟨g, 3, none⟩ = some (.int .u8 x4) := by rw [← HXS.out.2.2.2.1]; exact hbg.cell (padB_at (i := 3) (by decide))
    have n4 : w27.cell? ⟨g, 4, none⟩ = some (.int .u8 x5) := by rw [← HXS.out.2.2.2.2.1]; exact hbg.cell (padB_at (i := 4) (by decide))
    have n5 : w27.cell? ⟨g, 5, none⟩ = some (.int .u8 x6) := by rw [← HXS.out.2.2.2.2.2]; exact hbg.cell (padB_at (i := 5) (by decide))
    obtain ⟨c0, c1, c2, c3, c4, c5, c6, c7, c8, c9, c10, c11, c12, c13⟩ := HG.out.2.1.c14
    obtain ⟨f0, f1, f2, f3, f4, f5, f6, f7, f8, f9, f10, f11, f12, f13⟩ := HG.out.2.1.f14
    have hgn : g ≠ w.heap.size + 1 := by omega
    clear ho27 hb27 ho25 hb25 hbg hpk hpz hbb hg hWb
    unfold Hid
    go_wp2_with fail
  case' inr =>
    obtain rfl : cap = 1 := by omega
    have hl1 : xs.length - 1 = 0 := by omega
    have HRV : Hid (∀ y, Below w.heap.size w y → Bys y (.slice (some ⟨bb, oo, none⟩) 0 0) (xs.drop 1)) := fun y hy => by
      have := (HV.out.1 y hy).rest1 (S := 1) HV.out.2.1 oo (fun h => absurd h (by omega))
      rw [hl1] at this
      exact this
    go_enter Try.func12, Try.ntmps12
    go_upto_region 4 with fail
    generalize ((w.alloc (.cells #[.int .i64 0, .int .i64 0, .int .i64 0, .int .i64 0, .int .i64 0, .int .i64 0, .int .i64 0, .int .i64 0, .int .i64 0, .int .i64 0, .int .i64 0, .int .i64 0, .int .i64 0, .slice none 0 0] 26)).alloc (.cells #[.int .i64 2, .int .i64 0, .int .i64 0, .int .i64 0, .int .i64 0, .int .i64 0, .int .i64 0, .int .i64 0, .int .i64 0, .int .i64 0, .int .i64 0, .int .i64 0, .int .i64 0, .slice none 0 0] 26)) = W at *
    have hWb : w.heap.size + 2 ≤ W.heap.size := by have := HB.out.2.2.2.2; omega
    go_wp2_with (first
      | (at_builtin; have h27 := ho25; refine append_ys rfl _ _ rfl (w.heap.size + 2) _ _ _ [0, 0, 0, 0, 0, 0] rfl (h27.later (below_b1 _ (.cells #[.int .u8 0, .int .u8 0, .int .u8 0, .int .u8 0, .int .u8 0, .int .u8 0] 5))) rfl (byL 0 (owy_six _ 0 0 0 0 0 0 0 (Nat.zero_le _)) (fun x hx => by simp at hx; omega)) (by have := HV.out.2.2.2; simp; omega) (by have := hb25.size; simp; omega) ?_; intro v27 w27 ho27 hb27; refine Hid.out ?_)
      | (at_builtin; refine append_ys rfl _ _ rfl (w.heap.size + 2) (.slice none 0 0) _ [] (xs.drop 1) rfl (OwY.nil _ _) rfl (HRV.out _ HB.out.2.2.1) (by have := HV.out.2.2.2; simp; omega) hWb ?_; intro v25 w25 ho25 hb25))
    obtain ⟨g, cg, m, ev, hm6, hg, hbg, hpk, hpz, hbb⟩ := post27 HB.out.1 HB.out.2.1 HB.out.2.2.1 HB.out.2.2.2.2 hb25 hb27 ho27
    subst ev
    have b0 : (0 : Int) < m := by omega
    have b00 : 0 < m := by omega
    have b01 : 1 < m := by omega
    have b02 : 2 < m := by omega
    have b03 : 3 < m := by omega
    have b04 : 4 < m := by omega
    have b05 : 5 < m := by omega
    have b1 : (1 : Int) < m := by omega
    have b2 : (2 : Int) < m := by omega
    have b3 : (3 : Int) < m := by omega
    have b4 : (4 : Int) < m := by omega
    have b5 : (5 : Int) < m := by omega
    have HG : Hid (Bk w27 g (bv8 (padB xs)) ∧ Bk w27 (w.heap.size + 1) [.int .i64 2, .int .i64 0, .int .i64 0, .int .i64 0, .int .i64 0, .int .i64 0, .int .i64 0, .int .i64 0, .int .i64 0, .int .i64 0, .int .i64 0, .int .i64 0, .int .i64 0, .slice none 0 0] ∧ Bk w27 w.heap.size [.int .i64 0, .int .i64 0, .int .i64 0, .int .i64 0, .int .i64 0, .int .i64 0, .int .i64 0, .int .i64 0, .int .i64 0, .int .i64 0, .int .i64 0, .int .i64 0, .int .i64 0, .slice none 0 0] ∧ Below w.heap.size w w27 ∧ w.heap.size + 2 ≤ g) := ⟨hbg, hpk, hpz, hbb, hg⟩
    have n0 : w27.cell? ⟨g, 0, none⟩ = some (.int .u8 x1) := by rw [← HXS.out.1]; exact hbg.cell (padB_at (i := 0) (by decide))
    have n1 : w27.cell? ⟨g, 1, none⟩ = some (.int .u8 x2) := by rw [← HXS.out.2.1]; exact hbg.cell (padB_at (i := 1) (by decide))
    have n2 : w27.cell? ⟨g, 2, none⟩ = some (.int .u8 x3) := by rw [← HXS.out.2.2.1]; exact hbg.cell (padB_at (i := 2) (by decide))
    have n3 : w27.cell? ⟨g, 3, none⟩ = some (.int .u8 x4) := by rw [← HXS.out.2.2.2.1]; exact hbg.cell (padB_at (i := 3) (by decide))
    have n4 : w27.cell? ⟨g, 4, none⟩ = some (.int .u8 x5) := by rw [← HXS.out.2.2.2.2.1]; exact hbg.cell (padB_at (i := 4) (by decide))
    have n5 : w27.cell? ⟨g, 5, none⟩ = some (.int .u8 x6) := by rw [← HXS.out.2.2.2.2.2]; exact hbg.cell (padB_at (i := 5) (by decide))
    obtain ⟨c0, c1, c2, c3, c4, c5, c6, c7, c8, c9, c10, c11, c12, c13⟩ := HG.out.2.1.c14
    obtain ⟨f0, f1, f2, f3, f4, f5, f6, f7, f8, f9, f10, f11, f12, f13⟩ := HG.out.2.1.f14
    have hgn : g ≠ w.heap.size + 1 := by omega
    clear ho27 hb27 ho25 hb25 hbg hpk hpz hbb hg hWb
    unfold Hid
    go_wp2_with fail
  all_goals
    have hgn' : w.heap.size + 1 ≠ g := fun e => hgn e.symm
    have KP : Hid (∀ y : World, Bk y g (bv8 (padB xs)) → y.cell? ⟨g, 0, none⟩ = some (.int .u8 x1) ∧ y.cell? ⟨g, 1, none⟩ = some (.int .u8 x2) ∧ y.cell? ⟨g, 2, none⟩ = some (.int .u8 x3) ∧ y.cell? ⟨g, 3, none⟩ = some (.int .u8 x4) ∧ y.cell? ⟨g, 4, none⟩ = some (.int .u8 x5) ∧ y.cell? ⟨g, 5, none⟩ = some (.int .u8 x6)) := fun y hy => by
      have a0 := hy.cell (padB_at (i := 0) (by decide))
      have a1 := hy.cell (padB_at (i := 1) (by decide))
      have a2 := hy.cell (padB_at (i := 2) (by decide))
      have a3 := hy.cell (padB_at (i := 3) (by decide))
      have a4 := hy.cell (padB_at (i := 4) (by decide))
      have a5 := hy.cell (padB_at (i := 5) (by decide))
      obtain ⟨q1, q2, q3, q4, q5, q6⟩ := HXS.out
      rw [q1] at a0
      rw [q2] at a1
      rw [q3] at a2
      rw [q4] at a3
      rw [q5] at a4
      rw [q6] at a5
      exact ⟨a0, a1, a2, a3, a4, a5⟩
    go_region_held3 (fun y => y.cell? ⟨g, 0, none⟩ = some (.int .u8 x1) ∧ y.cell? ⟨g, 1, none⟩ = some (.int .u8 x2) ∧ y.cell? ⟨g, 2, none⟩ = some (.int .u8 x3) ∧ y.cell? ⟨g, 3, none⟩ = some (.int .u8 x4) ∧ y.cell? ⟨g, 4, none⟩ = some (.int .u8 x5) ∧ y.cell? ⟨g, 5, none⟩ = some (.int .u8 x6))
      (first | exact ⟨n0, n1, n2, n3, n4, n5⟩ | exact KP.out _ ((HG.out.1.later (Below.refl _ _).drew).other hgn' _) | exact KP.out _ (((HG.out.1).other hgn' _).later (Below.refl _ _).drew))
      (first | fail)
  all_goals
    have HZ : Hid (Bk (w27.setCell ⟨w.heap.size + 1, 1, none⟩ (.int .i64 (x1 * 256 + x2))).drew (w.heap.size + 1) [.int .i64 2, .int .i64 (x1 * 256 + x2), .int .i64 0, .int .i64 0, .int .i64 0, .int .i64 0, .int .i64 0, .int .i64 0, .int .i64 0, .int .i64 0, .int .i64 0, .int .i64 0, .int .i64 0, .slice none 0 0] ∧ Bk (w27.setCell ⟨w.heap.size + 1, 1, none⟩ (.int .i64 (x1 * 256 + x2))).drew w.heap.size [.int .i64 0, .int .i64 0, .int .i64 0, .int .i64 0, .int .i64 0, .int .i64 0, .int .i64 0, .int .i64 0, .int .i64 0, .int .i64 0, .int .i64 0, .int .i64 0, .int .i64 0, .slice none 0 0] ∧ Below w.heap.size w (w27.setCell ⟨w.heap.size + 1, 1, none⟩ (.int .i64 (x1 * 256 + x2))).drew) := ⟨(HG.out.2.1.set 1 _).later (Below.refl _ _).drew, (HG.out.2.2.1.other (by omega) _).later (Below.refl _ _).drew, (HG.out.2.2.2.1.setCell (p := ⟨w.heap.size + 1, 1, none⟩) (by show w.heap.size ≤ w.heap.size + 1; omega) _).drew⟩
    generalize (w27.setCell ⟨w.heap.size + 1, 1, none⟩ (.int .i64 (x1 * 256 + x2))).drew = W3 at *
    clear HG KP n0 n1 n2 n3 n4 n5 c0 c1 c2 c3 c4 c5 c6 c7 c8 c9 c10 c11 c12 c13 f0 f1 f2 f3 f4 f5 f6 f7 f8 f9 f10 f11 f12 f13
    go_wp2_with (refine load_bk rfl 26 _ rfl (w.heap.size + 1) 0 [.int .i64 2, .int .i64 (x1 * 256 + x2), .int .i64 0, .int .i64 0, .int .i64 0, .int .i64 0, .int .i64 0, .int .i64 0, .int .i64 0, .int .i64 0, .int .i64 0, .int .i64 0, .int .i64 0, .slice none 0 0] [.int .i64 2, .int .i64 (x1 * 256 + x2), .int .i64 0, .int .i64 0, .int .i64 0, .int .i64 0, .int .i64 0, .int .i64 0, .int .i64 0, .int .i64 0, .int .i64 0, .int .i64 0, .int .i64 0, .slice none 0 0] rfl HZ.out.1 rfl _ Try.underlying26 rfl (by kernel_rfl) ?_)
    refine (roput_any 2 (x1 * 256 + x2) 0 0 0 0 0 0 0 0 0 0 0 (.slice none 0 0) [] _ (Nums_nil _) (by first | (have := HV.out.2.2.2; simp; omega) | simp)).mono ?_
    rintro e w8 ⟨v8, rfl, ho8, hb8⟩
    have H8 : Hid (Bk w8 (w.heap.size + 1) [.int .i64 2, .int .i64 (x1 * 256 + x2), .int .i64 0, .int .i64 0, .int .i64 0, .int .i64 0, .int .i64 0, .int .i64 0, .int .i64 0, .int .i64 0, .int .i64 0, .int .i64 0, .int .i64 0, .slice none 0 0] ∧ Bk w8 w.heap.size [.int .i64 0, .int .i64 0, .int .i64 0, .int .i64 0, .int .i64 0, .int .i64 0, .int .i64 0, .int .i64 0, .int .i64 0, .int .i64 0, .int .i64 0, .int .i64 0, .int .i64 0, .slice none 0 0] ∧ Below w.heap.size w w8 ∧ Bys w8 v8 (bif omB ⟨2, x1 * 256 + x2, ⟨0, 0, 0, 0, 0, 0⟩, 0, 0, 0, 0, 0, []⟩ then obL ⟨2, x1 * 256 + x2, ⟨0, 0, 0, 0, 0, 0⟩, 0, 0, 0, 0, 0, []⟩ else [])) := ⟨HZ.out.1.later hb8, HZ.out.2.1.later hb8, HZ.out.2.2.trans (hb8.mono HZ.out.2.2.size), put_bys ho8⟩
    
    clear ho8 hb8
    cases hm : omB ⟨2, x1 * 256 + x2, ⟨0, 0, 0, 0, 0, 0⟩, 0, 0, 0, 0, 0, []⟩ with
    | false =>
      have HF : Hid (IsGet xs owZ false) := get_no HO.out hm
      clear hm
      go_wp2_with (refine store_bk rfl 26 _ _ rfl w.heap.size 0 [.int .i64 0, .int .i64 0, .int .i64 0, .int .i64 0, .int .i64 0, .int .i64 0, .int .i64 0, .int .i64 0, .int .i64 0, .int .i64 0, .int .i64 0, .int .i64 0, .int .i64 0, .slice none 0 0] [.int .i64 0, .int .i64 0, .int .i64 0, .int .i64 0, .int .i64 0, .int .i64 0, .int .i64 0, .int .i64 0, .int .i64 0, .int .i64 0, .int .i64 0, .int .i64 0, .int .i64 0, .slice none 0 0] [.int .i64 0, .int .i64 0, .int .i64 0, .int .i64 0, .int .i64 0, .int .i64 0, .int .i64 0, .int .i64 0, .int .i64 0, .int .i64 0, .int .i64 0, .int .i64 0, .int .i64 0, .slice none 0 0] rfl rfl 14 rfl H8.out.2.1 (Nat.le_refl _) rfl (by kernel_rfl) one14z ?_; intro w7 h1 h2 h3 h4)
      exact ret_ct (ty := 26) rfl w.heap.size [.int .i64 0, .int .i64 0, .int .i64 0, .int .i64 0, .int .i64 0, .int .i64 0, .int .i64 0, .int .i64 0, .int .i64 0, .int .i64 0, .int .i64 0, .int .i64 0, .int .i64 0, .slice none 0 0] (.bool false) rfl h1 _ Try.underlying26 rfl (by kernel_rfl) rfl rfl (GetE.none (HF.out) (h3 _ _ (Nat.le_refl _) H8.out.2.2.1))
    | true =>
      rw [hm] at H8
      have hX : (bif true then obL ⟨2, x1 * 256 + x2, ⟨0, 0, 0, 0, 0, 0⟩, 0, 0, 0, 0, 0, []⟩ else []) = obL ⟨2, x1 * 256 + x2, ⟨0, 0, 0, 0, 0, 0⟩, 0, 0, 0, 0, 0, []⟩ := rfl
      rw [hX] at H8
      have hh := (ob_head hm).2
      have hc1 := conv16 H8.out.2.2.2 (by intro e; rw [e] at hh; simp at hh)
      have hc2 := conv16 (HV.out.1 _ H8.out.2.2.1) (by intro e; have := HV.out.2.1; rw [e] at this; simp at this)
      by_cases ce : obL ⟨2, x1 * 256 + x2, ⟨0, 0, 0, 0, 0, 0⟩, 0, 0, 0, 0, 0, []⟩ = xs
      · have HF : Hid (IsGet xs ⟨2, x1 * 256 + x2, ⟨0, 0, 0, 0, 0, 0⟩, 0, 0, 0, 0, 0, []⟩ true) := get_is hm ce
        rw [ce] at hc1
        generalize strOfNums xs = st at *
        clear hm hX hh ce
        go_wp2_with (first
          | (refine store_bk rfl 26 _ _ rfl w.heap.size 0 [.int .i64 0, .int .i64 0, .int .i64 0, .int .i64 0, .int .i64 0, .int .i64 0, .int .i64 0, .int .i64 0, .int .i64 0, .int .i64 0, .int .i64 0, .int .i64 0, .int .i64 0, .slice none 0 0] [.int .i64 2, .int .i64 (x1 * 256 + x2), .int .i64 0, .int .i64 0, .int .i64 0, .int .i64 0, .int .i64 0, .int .i64 0, .int .i64 0, .int .i64 0, .int .i64 0, .int .i64 0, .int .i64 0, .slice none 0 0] [.int .i64 2, .int .i64 (x1 * 256 + x2), .int .i64 0, .int .i64 0, .int .i64 0, .int .i64 0, .int .i64 0, .int .i64 0, .int .i64 0, .int .i64 0, .int .i64 0, .int .i64 0, .int .i64 0, .slice none 0 0] rfl rfl 14 rfl H8.out.2.1 (Nat.le_refl _) rfl (by kernel_rfl) (one14L _ _ _ _ _ _ _ _ _ _ _ _ _) ?_; intro w7 h1 h2 h3 h4)
          | (refine load_bk rfl 26 _ rfl (w.heap.size + 1) 0 [.int .i64 2, .int .i64 (x1 * 256 + x2), .int .i64 0, .int .i64 0, .int .i64 0, .int .i64 0, .int .i64 0, .int .i64 0, .int .i64 0, .int .i64 0, .int .i64 0, .int .i64 0, .int .i64 0, .slice none 0 0] [.int .i64 2, .int .i64 (x1 * 256 + x2), .int .i64 0, .int .i64 0, .int .i64 0, .int .i64 0, .int .i64 0, .int .i64 0, .int .i64 0, .int .i64 0, .int .i64 0, .int .i64 0, .int .i64 0, .slice none 0 0] rfl H8.out.1 rfl _ Try.underlying26 rfl (by kernel_rfl) ?_))
        exact ret_ct (ty := 26) rfl w.heap.size [.int .i64 2, .int .i64 (x1 * 256 + x2), .int .i64 0, .int .i64 0, .int .i64 0, .int .i64 0, .int .i64 0, .int .i64 0, .int .i64 0, .int .i64 0, .int .i64 0, .int .i64 0, .int .i64 0, .slice none 0 0] (.bool true) rfl h1 _ Try.underlying26 rfl (by kernel_rfl) rfl rfl ⟨_, _, _, _, _, _, _, _, _, _, _, _, _, _, [], true, rfl, Nums_nil _, HF.out, h3 _ _ (Nat.le_refl _) H8.out.2.2.1⟩
      · have HF : Hid (IsGet xs owZ false) := get_ne HO.out ce
        have hs : ¬ (strOfNums (obL ⟨2, x1 * 256 + x2, ⟨0, 0, 0, 0, 0, 0⟩, 0, 0, 0, 0, 0, []⟩)).toList = (strOfNums xs).toList := fun e => ce (str_inj _ _ (ob_bytes hm) (bys_all (HV.out.1 _ (Below.refl _ _))) e)
        generalize strOfNums xs = st at *
        generalize strOfNums (obL ⟨2, x1 * 256 + x2, ⟨0, 0, 0, 0, 0, 0⟩, 0, 0, 0, 0, 0, []⟩) = s8 at *
        have hs1 : (s8.toList == st.toList) = false := beq_eq_false_iff_ne.2 hs
        clear hm hX hh ce
        go_wp2_with (refine store_bk rfl 26 _ _ rfl w.heap.size 0 [.int .i64 0, .int .i64 0, .int .i64 0, .int .i64 0, .int .i64 0, .int .i64 0, .int .i64 0, .int .i64 0, .int .i64 0, .int .i64 0, .int .i64 0, .int .i64 0, .int .i64 0, .slice none 0 0] [.int .i64 0, .int .i64 0, .int .i64 0, .int .i64 0, .int .i64 0, .int .i64 0, .int .i64 0, .int .i64 0, .int .i64 0, .int .i64 0, .int .i64 0, .int .i64 0, .int .i64 0, .slice none 0 0] [.int .i64 0, .int .i64 0, .int .i64 0, .int .i64 0, .int .i64 0, .int .i64 0, .int .i64 0, .int .i64 0, .int .i64 0, .int .i64 0, .int .i64 0, .int .i64 0, .int .i64 0, .slice none 0 0] rfl rfl 14 rfl H8.out.2.1 (Nat.le_refl _) rfl (by kernel_rfl) one14z ?_; intro w7 h1 h2 h3 h4)
        exact ret_ct (ty := 26) rfl w.heap.size [.int .i64 0, .int .i64 0, .int .i64 0, .int .i64 0, .int .i64 0, .int .i64 0, .int .i64 0, .int .i64 0, .int .i64 0, .int .i64 0, .int .i64 0, .int .i64 0, .int .i64 0, .slice none 0 0] (.bool false) rfl h1 _ Try.underlying26 rfl (by kernel_rfl) rfl rfl (GetE.none (HF.out) (h3 _ _ (Nat.le_refl _) H8.out.2.2.1))
end Go.Proofs.Yteklcolphbcjlaa
/- Walks of the document's own Get: Join. -/
namespace Go.Proofs.Yteklcolphbcjlaa
open Go.RowKit

set_option maxHeartbeats 8000000 in
set_option maxRecDepth 100000 in
theorem roget16_0 (xs : List Int) (v : Value) (w : World) (h : Bys w v xs) (hl : 0 < xs.length) (hl20 : xs.length ≤ 20) (h0 : xs.getD 0 0 = 0)  :
    Calls Try.prog 12 #[v] w (GetE xs w) := by
  have HV : Hid ((∀ y, Below w.heap.size w y → Bys y v xs) ∧ 0 < xs.length ∧ xs.getD 0 0 = 0 ∧ xs.length ≤ 20) := ⟨fun y hy => h.later hy, hl, h0, hl20⟩
  obtain ⟨a, cap, rfl, h1, h2, h3, h4, h5⟩ := h
  obtain ⟨bb, oo, rfl, h6⟩ := h5 (by intro e; rw [e] at hl; simp at hl)
  have HD : Hid (∀ i, i < xs.length → 0 ≤ xs.getD i 0 ∧ xs.getD i 0 ≤ 255) := h4
  have HB : Hid (Bk ((w.alloc (.cells #[.int .i64 0, .int .i64 0, .int .i64 0, .int .i64 0, .int .i64 0, .int .i64 0, .int .i64 0, .int .i64 0, .int .i64 0, .int .i64 0, .int .i64 0, .int .i64 0, .int .i64 0, .slice none 0 0] 26)).alloc (.cells #[.int .i64 0, .int .i64 0, .int .i64 0, .int .i64 0, .int .i64 0, .int .i64 0, .int .i64 0, .int .i64 0, .int .i64 0, .int .i64 0, .int .i64 0, .int .i64 0, .int .i64 0, .slice none 0 0] 26)) w.heap.size [.int .i64 0, .int .i64 0, .int .i64 0, .int .i64 0, .int .i64 0, .int .i64 0, .int .i64 0, .int .i64 0, .int .i64 0, .int .i64 0, .int .i64 0, .int .i64 0, .int .i64 0, .slice none 0 0] ∧ Bk ((w.alloc (.cells #[.int .i64 0, .int .i64 0, .int .i64 0, .int .i64 0, .int .i64 0, .int .i64 0, .int .i64 0, .int .i64 0, .int .i64 0, .int .i64 0, .int .i64 0, .int .i64 0, .int .i64 0, .slice none 0 0] 26)).alloc (.cells #[.int .i64 0, .int .i64 0, .int .i64 0, .int .i64 0, .int .i64 0, .int .i64 0, .int .i64 0, .int .i64 0, .int .i64 0, .int .i64 0, .int .i64 0, .int .i64 0, .int .i64 0, .slice none 0 0] 26)) (w.heap.size + 1) [.int .i64 0, .int .i64 0, .int .i64 0, .int .i64 0, .int .i64 0, .int .i64 0, .int .i64 0, .int .i64 0, .int .i64 0, .int .i64 0, .int .i64 0, .int .i64 0, .int .i64 0, .slice none 0 0] ∧ Below w.heap.size w ((w.alloc (.cells #[.int .i64 0, .int .i64 0, .int .i64 0, .int .i64 0, .int .i64 0, .int .i64 0, .int .i64 0, .int .i64 0, .int .i64 0, .int .i64 0, .int .i64 0, .int .i64 0, .int .i64 0, .slice none 0 0] 26)).alloc (.cells #[.int .i64 0, .int .i64 0, .int .i64 0, .int .i64 0, .int .i64 0, .int .i64 0, .int .i64 0, .int .i64 0, .int .i64 0, .int .i64 0, .int .i64 0, .int .i64 0, .int .i64 0, .slice none 0 0] 26)) ∧ Below w.heap.size w (w.alloc (.cells #[.int .i64 0, .int .i64 0, .int .i64 0, .int .i64 0, .int .i64 0, .int .i64 0, .int .i64 0, .int .i64 0, .int .i64 0, .int .i64 0, .int .i64 0, .int .i64 0, .int .i64 0, .slice none 0 0] 26)) ∧ ((w.alloc (.cells #[.int .i64 0, .int .i64 0, .int .i64 0, .int .i64 0, .int .i64 0, .int .i64 0, .int .i64 0, .int .i64 0, .int .i64 0, .int .i64 0, .int .i64 0, .int .i64 0, .int .i64 0, .slice none 0 0] 26)).alloc (.cells #[.int .i64 0, .int .i64 0, .int .i64 0, .int .i64 0, .int .i64 0, .int .i64 0, .int .i64 0, .int .i64 0, .int .i64 0, .int .i64 0, .int .i64 0, .int .i64 0, .int .i64 0, .slice none 0 0] 26)).heap.size = w.heap.size + 2) := ⟨(Bk.new w _ _).later (below_b1 _ _), (by have := Bk.new (w.alloc (.cells #[.int .i64 0, .int .i64 0, .int .i64 0, .int .i64 0, .int .i64 0, .int .i64 0, .int .i64 0, .int .i64 0, .int .i64 0, .int .i64 0, .int .i64 0, .int .i64 0, .int .i64 0, .slice none 0 0] 26)) [.int .i64 0, .int .i64 0, .int .i64 0, .int .i64 0, .int .i64 0, .int .i64 0, .int .i64 0, .int .i64 0, .int .i64 0, .int .i64 0, .int .i64 0, .int .i64 0, .int .i64 0, .slice none 0 0] 26; simp only [World.size_alloc] at this; exact this), below_b2 _ _ _, below_b1 _ _, by simp⟩
  have e0 := cell_later HB.out.2.2.2.1 (h6 0 hl)
  rw [Nat.add_zero, h0] at e0
  have bk := h4 0 hl
  rw [h0] at bk
  have wk : IntKind.i64.wrap 0 = 0 := by rw [IntKind.wrap_i64]; omega
  have c0' : ((xs.length : Int) == 0) = false := beq_eq_false_iff_ne.2 (by omega)
  have c20 : ¬ (20 : Int) < xs.length := by omega
  have hln : (0 : Int) < xs.length := by omega
  have h1c : (1 : Int) ≤ cap := by omega
  have h1d : (1 : Int) ≤ xs.length := by omega
  have HX : Hid (xs.getD 1 0 = xs.getD 1 0) := rfl
  obtain ⟨x1, hx1⟩ : ∃ x, xs.getD 1 0 = x := ⟨_, rfl⟩
  obtain ⟨x2, hx2⟩ : ∃ x, xs.getD 2 0 = x := ⟨_, rfl⟩
  obtain ⟨x3, hx3⟩ : ∃ x, xs.getD 3 0 = x := ⟨_, rfl⟩
  obtain ⟨x4, hx4⟩ : ∃ x, xs.getD 4 0 = x := ⟨_, rfl⟩
  obtain ⟨x5, hx5⟩ : ∃ x, xs.getD 5 0 = x := ⟨_, rfl⟩
  obtain ⟨x6, hx6⟩ : ∃ x, xs.getD 6 0 = x := ⟨_, rfl⟩
  have y1 := bd_all HD.out 1
  have y2 := bd_all HD.out 2
  have y3 := bd_all HD.out 3
  have y4 := bd_all HD.out 4
  have y5 := bd_all HD.out 5
  have y6 := bd_all HD.out 6
  rw [hx1] at y1
  rw [hx2] at y2
  rw [hx3] at y3
  rw [hx4] at y4
  rw [hx5] at y5
  rw [hx6] at y6
  have u1 : IntKind.i64.wrap x1 = x1 := by rw [IntKind.wrap_i64]; omega
  have u2 : IntKind.i64.wrap x2 = x2 := by rw [IntKind.wrap_i64]; omega
  have u3 : IntKind.i64.wrap x3 = x3 := by rw [IntKind.wrap_i64]; omega
  have u4 : IntKind.i64.wrap x4 = x4 := by rw [IntKind.wrap_i64]; omega
  have u5 : IntKind.i64.wrap x5 = x5 := by rw [IntKind.wrap_i64]; omega
  have u6 : IntKind.i64.wrap x6 = x6 := by rw [IntKind.wrap_i64]; omega
  have p1 : IntKind.i64.wrap (x1 * 256) = x1 * 256 := by rw [IntKind.wrap_i64]; omega
  have p2 : IntKind.i64.wrap (x1 * 256 + x2) = x1 * 256 + x2 := by rw [IntKind.wrap_i64]; omega
  have p3 : IntKind.i64.wrap (x3 * 256) = x3 * 256 := by rw [IntKind.wrap_i64]; omega
  have p4 : IntKind.i64.wrap (x3 * 256 + x4) = x3 * 256 + x4 := by rw [IntKind.wrap_i64]; omega
  have HXS : Hid (xs.getD 1 0 = x1 ∧ xs.getD 2 0 = x2 ∧ xs.getD 3 0 = x3 ∧ xs.getD 4 0 = x4 ∧ xs.getD 5 0 = x5 ∧ xs.getD 6 0 = x6) := ⟨hx1, hx2, hx3, hx4, hx5, hx6⟩
  have HO : Hid (odG xs = ⟨0, 0, ⟨x1, x2, x3, x4, x5, x6⟩, 0, 0, 0, 0, 0, []⟩) := by show _ = _; rw [odG_0 h0, hx1, hx2, hx3, hx4, hx5, hx6]
  clear h3 h4 h5 h6 h0 hx1 hx2 hx3 hx4 hx5 hx6 y1 y2 y3 y4 y5 y6 HX
  rcases Nat.lt_or_ge 1 cap with hc | hc
  case' inl =>
    have hc' : (1 : Int) < cap := by omega
    have HRV : Hid (∀ y, Below w.heap.size w y → Bys y (.slice (some ⟨bb, oo + 1, none⟩) (xs.length - 1) (cap - 1)) (xs.drop 1)) := fun y hy => (HV.out.1 y hy).rest1 (S := 1) HV.out.2.1 (oo + 1) (fun _ => rfl)
    go_enter Try.func12, Try.ntmps12
    go_upto_region 4 with fail
    generalize ((w.alloc (.cells #[.int .i64 0, .int .i64 0, .int .i64 0, .int .i64 0, .int .i64 0, .int .i64 0, .int .i64 0, .int .i64 0, .int .i64 0, .int .i64 0, .int .i64 0, .int .i64 0, .int .i64 0, .slice none 0 0] 26)).alloc (.cells #[.int .i64 0, .int .i64 0, .int .i64 0, .int .i64 0, .int .i64 0, .int .i64 0, .int .i64 0, .int .i64 0, .int .i64 0, .int .i64 0, .int .i64 0, .int .i64 0, .int .i64 0, .slice none 0 0] 26)) = W at *
    have hWb : w.heap.size + 2 ≤ W.heap.size := by have := HB.out.2.2.2.2; omega
    go_wp2_with (first
      | (at_builtin; have h27 := ho25; refine append_ys rfl _ _ rfl (w.heap.size + 2) _ _ _ [0, 0, 0, 0, 0, 0] rfl (h27.later (below_b1 _ (.cells #[.int .u8 0, .int .u8 0, .int .u8 0, .int .u8 0, .int .u8 0, .int .u8 0] 5))) rfl (byL 0 (owy_six _ 0 0 0 0 0 0 0 (Nat.zero_le _)) (fun x hx => by simp at hx; omega)) (by have := HV.out.2.2.2; simp; omega) (by have := hb25.size; simp; omega) ?_; intro v27 w27 ho27 hb27; refine Hid.out ?_)
      | (at_builtin; refine append_ys rfl _ _ rfl (w.heap.size + 2) (.slice none 0 0) _ [] (xs.drop 1) rfl (OwY.nil _ _) rfl (HRV.out _ HB.out.2.2.1) (by have := HV.out.2.2.2; simp; omega) hWb ?_; intro v25 w25 ho25 hb25))
    obtain ⟨g, cg, m, ev, hm6, hg, hbg, hpk, hpz, hbb⟩ := post27 HB.out.1 HB.out.2.1 HB.out.2.2.1 HB.out.2.2.2.2 hb25 hb27 ho27
    subst ev
    have b0 : (0 : Int) < m := by omega
    have b00 : 0 < m := by omega
    have b01 : 1 < m := by omega
    have b02 : 2 < m := by omega
    have b03 : 3 < m := by omega
    have b04 : 4 < m := by omega
    have b05 : 5 < m := by omega
    have b1 : (1 : Int) < m := by omega
    have b2 : (2 : Int) < m := by omega
    have b3 : (3 : Int) < m := by omega
    have b4 : (4 : Int) < m := by omega
    have b5 : (5 : Int) < m := by omega
    have HG : Hid (Bk w27 g (bv8 (padB xs)) ∧ Bk w27 (w.heap.size + 1) [.int .i64 0, .int .i64 0, .int .i64 0, .int .i64 0, .int .i64 0, .int .i64 0, .int .i64 0, .int .i64 0, .int .i64 0, .int .i64 0, .int .i64 0, .int .i64 0, .int .i64 0, .slice none 0 0] ∧ Bk w27 w.heap.size [.int .i64 0, .int .i64 0, .int .i64 0, .int .i64 0, .int .i64 0, .int .i64 0, .int .i64 0, .int .i64 0, .int .i64 0, .int .i64 0, .int .i64 0, .int .i64 0, .int .i64 0, .slice none 0 0] ∧ Below w.heap.size w w27 ∧ w.heap.size + 2 ≤ g) := ⟨hbg, hpk, hpz, hbb, hg⟩
    have n0 : w27.cell? ⟨g, 0, none⟩ = some (.int .u8 x1) := by rw [← HXS.out.1]; exact hbg.cell (padB_at (i := 0) (by decide))
    have n1 : w27.cell? ⟨g, 1, none⟩ = some (.int .u8 x2) := by rw [← HXS.out.2.1]; exact hbg.cell (padB_at (i := 1) (by decide))
    have n2 : w27.cell? ⟨g, 2, none⟩ = some (.int .u8 x3) := by rw [← HXS.out.2.2.1]; exact hbg.cell (padB_at (i := 2) (by decide))
    have n3 : w27.cell? ⟨g, 3, none⟩ = some (.int .u8 x4) := by rw [← HXS.out.2.2.2.1]; exact hbg.cell (padB_at (i := 3) (by decide))
    have n4 : w27.cell? ⟨g, 4, none⟩ = some (.int .u8 x5) := by rw [← HXS.out.2.2.2.2.1]; exact hbg.cell (padB_at (i := 4) (by decide))
    have n5 : w27.cell? ⟨g, 5, none⟩ = some (.int .u8 x6) := by rw [← HXS.out.2.2.2.2.2]; exact hbg.cell (padB_at (i := 5) (by decide))
    obtain ⟨c0, c1, c2, c3, c4, c5, c6, c7, c8, c9, c10, c11, c12, c13⟩ := HG.out.2.1.c14
    obtain ⟨f0, f1, f2, f3, f4, f5, f6, f7, f8, f9, f10, f11, f12, f13⟩ := HG.out.2.1.f14
    have hgn : g ≠ w.heap.size + 1 := by omega
    clear ho27 hb27 ho25 hb25 hbg hpk hpz hbb hg hWb
    unfold Hid
    go_wp2_with fail
  case' inr =>
    obtain rfl : cap = 1 := by omega
    have hl1 : xs.length - 1 = 0 := by omega
    have HRV : Hid (∀ y, Below w.heap.size w y → Bys y (.slice (some ⟨bb, oo, none⟩) 0 0) (xs.drop 1)) := fun y hy => by
      have := (HV.out.1 y hy).rest1 (S := 1) HV.out.2.1 oo (fun h => absurd h (by omega))
      rw [hl1] at this
      exact this
    go_enter Try.func12, Try.ntmps12
    go_upto_region 4 with fail
    generalize ((w.alloc (.cells #[.int .i64 0, .int .i64 0, .int .i64 0, .int .i64 0, .int .i64 0, .int .i64 0, .int .i64 0, .int .i64 0, .int .i64 0, .int .i64 0, .int .i64 0, .int .i64 0, .int .i64 0, .slice none 0 0] 26)).alloc (.cells #[.int .i64 0, .int .i64 0, .int .i64 0, .int .i64 0, .int .i64 0, .int .i64 0, .int .i64 0, .int .i64 0, .int .i64 0, .int .i64 0, .int .i64 0, .int .i64 0, .int .i64 0, .slice none 0 0] 26)) = W at *
    have hWb : w.heap.size + 2 ≤ W.heap.size := by have := HB.out.2.2.2.2; omega
    go_wp2_with (first
      | (at_builtin; have h27 := ho25; refine append_ys rfl _ _ rfl (w.heap.size + 2) _ _ _ [0, 0, 0, 0, 0, 0] rfl (h27.later (below_b1 _ (.cells #[.int .u8 0, .int .u8 0, .int .u8 0, .int .u8 0, .int .u8 0, .int .u8 0] 5))) rfl (byL 0 (owy_six _ 0 0 0 0 0 0 0 (Nat.zero_le _)) (fun x hx => by simp at hx; omega)) (by have := HV.out.2.2.2; simp; omega) (by have := hb25.size; simp; omega) ?_; intro v27 w27 ho27 hb27; refine Hid.out ?_)
      | (at_builtin; refine append_ys rfl _ _ rfl (w.heap.size + 2) (.slice none 0 0) _ [] (xs.drop 1) rfl (OwY.nil _ _) rfl (HRV.out _ HB.out.2.2.1) (by have := HV.out.2.2.2; simp; omega) hWb ?_; intro v25 w25 ho25 hb25))
    obtain ⟨g, cg, m, ev, hm6, hg, hbg, hpk, hpz, hbb⟩ := post27 HB.out.1 HB.out.2.1 HB.out.2.2.1 HB.out.2.2.2.2 hb25 hb27 ho27
    subst ev
    have b0 : (0 : Int) < m := by omega
    have b00 : 0 < m := by omega
    have b01 : 1 < m := by omega
    have b02 : 2 < m := by omega
    have b03 : 3 < m := by omega
    have b04 : 4 < m := by omega
    have b05 : 5 < m := by omega
    have b1 : (1 : Int) < m := by omega
    have b2 : (2 : Int) < m := by omega
    have b3 : (3 : Int) < m := by omega
    have b4 : (4 : Int) < m := by omega
    have b5 : (5 : Int) < m := by omega
    have HG : Hid (Bk w27 g (bv8 (padB xs)) ∧ Bk w27 (w.heap.size + 1) [.int .i64 0, .int .i64 0, .int .i64 0, .int .i64 0, .int .i64 0, .int .i64 0, .int .i64 0, .int .i64 0, .int .i64 0, .int .i64 0, .int .i64 0, .int .i64 0, .int .i64 0, .slice none 0 0] ∧ Bk w27 w.heap.size [.int .i64 0, .int .i64 0, .int .i64 0, .int .i64 0, .int .i64 0, .int .i64 0, .int .i64 0, .int .i64 0, .int .i64 0, .int .i64 0, .int .i64 0, .int .i64 0, .int .i64 0, .slice none 0 0] ∧ Below w.heap.size w w27 ∧ w.heap.size + 2 ≤ g) := ⟨hbg, hpk, hpz, hbb, hg⟩
    have n0 : w27.cell? ⟨g, 0, none⟩ = some (.int .u8 x1) := by rw [← HXS.out.1]; exact hbg.cell (padB_at (i := 0) (by decide))
    have n1 : w27.cell? ⟨g, 1, none⟩ = some (.int .u8 x2) := by rw [← HXS.out.2.1]; exact hbg.cell (padB_at (i := 1) (by decide))
    have n2 : w27.cell? ⟨g, 2, none⟩ = some (.int .u8 x3) := by rw [← HXS.out.2.2.1]; exact hbg.cell (padB_at (i := 2) (by decide))
    have n3 : w27.cell? ⟨g, 3, none⟩ = some (.int .u8 x4) := by rw [← HXS.out.2.2.2.1]; exact hbg.cell (padB_at (i := 3) (by decide))
    have n4 : w27.cell? ⟨g, 4, none⟩ = some (.int .u8 x5) := by rw [← HXS.out.2.2.2.2.1]; exact hbg.cell (padB_at (i := 4) (by decide))
    have n5 : w27.cell? ⟨g, 5, none⟩ = some (.int .u8 x6) := by rw [← HXS.out.2.2.2.2.2]; exact hbg.cell (padB_at (i := 5) (by decide))
    obtain ⟨c0, c1, c2, c3, c4, c5, c6, c7, c8, c9, c10, c11, c12, c13⟩ := HG.out.2.1.c14
    obtain ⟨f0, f1, f2, f3, f4, f5, f6, f7, f8, f9, f10, f11, f12, f13⟩ := HG.out.2.1.f14
    have hgn : g ≠ w.heap.size + 1 := by omega
    clear ho27 hb27 ho25 hb25 hbg hpk hpz hbb hg hWb
    unfold Hid
    go_wp2_with fail
  all_goals
    have hgn' : w.heap.size + 1 ≠ g := fun e => hgn e.symm
    have KP : Hid (∀ y : World, Bk y g (bv8 (padB xs)) → y.cell? ⟨g, 0, none⟩ = some (.int .u8 x1) ∧ y.cell? ⟨g, 1, none⟩ = some (.int .u8 x2) ∧ y.cell? ⟨g, 2, none⟩ = some (.int .u8 x3) ∧ y.cell? ⟨g, 3, none⟩ = some (.int .u8 x4) ∧ y.cell? ⟨g, 4, none⟩ = some (.int .u8 x5) ∧ y.cell? ⟨g, 5, none⟩ = some (.int .u8 x6)) := fun y hy => by
      have a0 := hy.cell (padB_at (i := 0) (by decide))
      have a1 := hy.cell (padB_at (i := 1) (by decide))
      have a2 := hy.cell (padB_at (i := 2) (by decide))
      have a3 := hy.cell (padB_at (i := 3) (by decide))
      have a4 := hy.cell (padB_at (i := 4) (by decide))
      have a5 := hy.cell (padB_at (i := 5) (by decide))
      obtain ⟨q1, q2, q3, q4, q5, q6⟩ := HXS.out
      rw [q1] at a0
      rw [q2] at a1
      rw [q3] at a2
      rw [q4] at a3
      rw [q5] at a4
      rw [q6] at a5
      exact ⟨a0, a1, a2, a3, a4, a5⟩
    go_region_held3 (fun y => y.cell? ⟨g, 0, none⟩ = some (.int .u8 x1) ∧ y.cell? ⟨g, 1, none⟩ = some (.int .u8 x2) ∧ y.cell? ⟨g, 2, none⟩ = some (.int .u8 x3) ∧ y.cell? ⟨g, 3, none⟩ = some (.int .u8 x4) ∧ y.cell? ⟨g, 4, none⟩ = some (.int .u8 x5) ∧ y.cell? ⟨g, 5, none⟩ = some (.int .u8 x6))
      ((refine KP.out _ ?_; refine Bk.later ?_ (Below.refl _ _).drew; first | (guard_target =ₛ Bk w27 g (bv8 (padB xs)); exact HG.out.1) | exact ((((((HG.out.1).other hgn' _).other hgn' _).other hgn' _).other hgn' _).other hgn' _).other hgn' _))
      (first | fail)
  all_goals
    have HZ : Hid (Bk ((((((w27.setCell ⟨w.heap.size + 1, 2, none⟩ (.int .i64 x1)).setCell ⟨w.heap.size + 1, 3, none⟩ (.int .i64 x2)).setCell ⟨w.heap.size + 1, 4, none⟩ (.int .i64 x3)).setCell ⟨w.heap.size + 1, 5, none⟩ (.int .i64 x4)).setCell ⟨w.heap.size + 1, 6, none⟩ (.int .i64 x5)).setCell ⟨w.heap.size + 1, 7, none⟩ (.int .i64 x6)).drew (w.heap.size + 1) [.int .i64 0, .int .i64 0, .int .i64 x1, .int .i64 x2, .int .i64 x3, .int .i64 x4, .int .i64 x5, .int .i64 x6, .int .i64 0, .int .i64 0, .int .i64 0, .int .i64 0, .int .i64 0, .slice none 0 0] ∧ Bk ((((((w27.setCell ⟨w.heap.size + 1, 2, none⟩ (.int .i64 x1)).setCell ⟨w.heap.size + 1, 3, none⟩ (.int .i64 x2)).setCell ⟨w.heap.size + 1, 4, none⟩ (.int .i64 x3)).setCell ⟨w.heap.size + 1, 5, none⟩ (.int .i64 x4)).setCell ⟨w.heap.size + 1, 6, none⟩ (.int .i64 x5)).setCell ⟨w.heap.size + 1, 7, none⟩ (.int .i64 x6)).drew w.heap.size [.int .i64 0, .int .i64 0, .int .i64 0, .int .i64 0, .int .i64 0, .int .i64 0, .int .i64 0, .int .i64 0, .int .i64 0, .int .i64 0, .int .i64 0, .int .i64 0, .int .i64 0, .slice none 0 0] ∧ Below w.heap.size w ((((((w27.setCell ⟨w.heap.size + 1, 2, none⟩ (.int .i64 x1)).setCell ⟨w.heap.size + 1, 3, none⟩ (.int .i64 x2)).setCell ⟨w.heap.size + 1, 4, none⟩ (.int .i64 x3)).setCell ⟨w.heap.size + 1, 5, none⟩ (.int .i64 x4)).setCell ⟨w.heap.size + 1, 6, none⟩ (.int .i64 x5)).setCell ⟨w.heap.size + 1, 7, none⟩ (.int .i64 x6)).drew) := ⟨(((((((HG.out.2.1).set 2 _).set 3 _).set 4 _).set 5 _).set 6 _).set 7 _).later (Below.refl _ _).drew, (((((((HG.out.2.2.1).other (by omega) _).other (by omega) _).other (by omega) _).other (by omega) _).other (by omega) _).other (by omega) _).later (Below.refl _ _).drew, (((((((HG.out.2.2.2.1).setCell (p := ⟨w.heap.size + 1, 2, none⟩) (by show w.heap.size ≤ w.heap.size + 1; omega) _).setCell (p := ⟨w.heap.size + 1, 3, none⟩) (by show w.heap.size ≤ w.heap.size + 1; omega) _).setCell (p := ⟨w.heap.size + 1, 4, none⟩) (by show w.heap.size ≤ w.heap.size + 1; omega) _).setCell (p := ⟨w.heap.size + 1, 5, none⟩) (by show w.heap.size ≤ w.heap.size + 1; omega) _).setCell (p := ⟨w.heap.size + 1, 6, none⟩) (by show w.heap.size ≤ w.heap.size + 1; omega) _).setCell (p := ⟨w.heap.size + 1, 7, none⟩) (by show w.heap.size ≤ w.heap.size + 1; omega) _).drew⟩
    generalize ((((((w27.setCell ⟨w.heap.size + 1, 2, none⟩ (.int .i64 x1)).setCell ⟨w.heap.size + 1, 3, none⟩ (.int .i64 x2)).setCell ⟨w.heap.size + 1, 4, none⟩ (.int .i64 x3)).setCell ⟨w.heap.size + 1, 5, none⟩ (.int .i64 x4)).setCell ⟨w.heap.size + 1, 6, none⟩ (.int .i64 x5)).setCell ⟨w.heap.size + 1, 7, none⟩ (.int .i64 x6)).drew = W3 at *
    clear HG KP
    clear n0 n1 n2 n3 n4 n5 c0 c1 c2 c3 c4 c5 c6 c7 c8 c9 c10 c11 c12 c13 f0 f1 f2 f3 f4 f5 f6 f7 f8 f9 f10 f11 f12 f13
    go_wp2_with (refine load_bk rfl 26 _ rfl (w.heap.size + 1) 0 [.int .i64 0, .int .i64 0, .int .i64 x1, .int .i64 x2, .int .i64 x3, .int .i64 x4, .int .i64 x5, .int .i64 x6, .int .i64 0, .int .i64 0, .int .i64 0, .int .i64 0, .int .i64 0, .slice none 0 0] [.int .i64 0, .int .i64 0, .int .i64 x1, .int .i64 x2, .int .i64 x3, .int .i64 x4, .int .i64 x5, .int .i64 x6, .int .i64 0, .int .i64 0, .int .i64 0, .int .i64 0, .int .i64 0, .slice none 0 0] rfl HZ.out.1 rfl _ Try.underlying26 rfl (by kernel_rfl) ?_)
    refine (roput_any 0 0 x1 x2 x3 x4 x5 x6 0 0 0 0 0 (.slice none 0 0) [] _ (Nums_nil _) (by first | (have := HV.out.2.2.2; simp; omega) | simp)).mono ?_
    rintro e w8 ⟨v8, rfl, ho8, hb8⟩
    have H8 : Hid (Bk w8 (w.heap.size + 1) [.int .i64 0, .int .i64 0, .int .i64 x1, .int .i64 x2, .int .i64 x3, .int .i64 x4, .int .i64 x5, .int .i64 x6, .int .i64 0, .int .i64 0, .int .i64 0, .int .i64 0, .int .i64 0, .slice none 0 0] ∧ Bk w8 w.heap.size [.int .i64 0, .int .i64 0, .int .i64 0, .int .i64 0, .int .i64 0, .int .i64 0, .int .i64 0, .int .i64 0, .int .i64 0, .int .i64 0, .int .i64 0, .int .i64 0, .int .i64 0, .slice none 0 0] ∧ Below w.heap.size w w8 ∧ Bys w8 v8 (bif omB ⟨0, 0, ⟨x1, x2, x3, x4, x5, x6⟩, 0, 0, 0, 0, 0, []⟩ then obL ⟨0, 0, ⟨x1, x2, x3, x4, x5, x6⟩, 0, 0, 0, 0, 0, []⟩ else [])) := ⟨HZ.out.1.later hb8, HZ.out.2.1.later hb8, HZ.out.2.2.trans (hb8.mono HZ.out.2.2.size), put_bys ho8⟩
    
    clear ho8 hb8
    cases hm : omB ⟨0, 0, ⟨x1, x2, x3, x4, x5, x6⟩, 0, 0, 0, 0, 0, []⟩ with
    | false =>
      have HF : Hid (IsGet xs owZ false) := get_no HO.out hm
      clear hm
      go_wp2_with (refine store_bk rfl 26 _ _ rfl w.heap.size 0 [.int .i64 0, .int .i64 0, .int .i64 0, .int .i64 0, .int .i64 0, .int .i64 0, .int .i64 0, .int .i64 0, .int .i64 0, .int .i64 0, .int .i64 0, .int .i64 0, .int .i64 0, .slice none 0 0] [.int .i64 0, .int .i64 0, .int .i64 0, .int .i64 0, .int .i64 0, .int .i64 0, .int .i64 0, .int .i64 0, .int .i64 0, .int .i64 0, .int .i64 0, .int .i64 0, .int .i64 0, .slice none 0 0] [.int .i64 0, .int .i64 0, .int .i64 0, .int .i64 0, .int .i64 0, .int .i64 0, .int .i64 0, .int .i64 0, .int .i64 0, .int .i64 0, .int .i64 0, .int .i64 0, .int .i64 0, .slice none 0 0] rfl rfl 14 rfl H8.out.2.1 (Nat.le_refl _) rfl (by kernel_rfl) one14z ?_; intro w7 h1 h2 h3 h4)
      exact ret_ct (ty := 26) rfl w.heap.size [.int .i64 0, .int .i64 0, .int .i64 0, .int .i64 0, .int .i64 0, .int .i64 0, .int .i64 0, .int .i64 0, .int .i64 0, .int .i64 0, .int .i64 0, .int .i64 0, .int .i64 0, .slice none 0 0] (.bool false) rfl h1 _ Try.underlying26 rfl (by kernel_rfl) rfl rfl (GetE.none (HF.out) (h3 _ _ (Nat.le_refl _) H8.out.2.2.1))
    | true =>
      rw [hm] at H8
      have hX : (bif true then obL ⟨0, 0, ⟨x1, x2, x3, x4, x5, x6⟩, 0, 0, 0, 0, 0, []⟩ else []) = obL ⟨0, 0, ⟨x1, x2, x3, x4, x5, x6⟩, 0, 0, 0, 0, 0, []⟩ := rfl
      rw [hX] at H8
      have hh := (ob_head hm).2
      have hc1 := conv16 H8.out.2.2.2 (by intro e; rw [e] at hh; simp at hh)
      have hc2 := conv16 (HV.out.1 _ H8.out.2.2.1) (by intro e; have := HV.out.2.1; rw [e] at this; simp at this)
      by_cases ce : obL ⟨0, 0, ⟨x1, x2, x3, x4, x5, x6⟩, 0, 0, 0, 0, 0, []⟩ = xs
      · have HF : Hid (IsGet xs ⟨0, 0, ⟨x1, x2, x3, x4, x5, x6⟩, 0, 0, 0, 0, 0, []⟩ true) := get_is hm ce
        rw [ce] at hc1
        generalize strOfNums xs = st at *
        clear hm hX hh ce
        go_wp2_with (first
          | (refine store_bk rfl 26 _ _ rfl w.heap.size 0 [.int .i64 0, .int .i64 0, .int .i64 0, .int .i64 0, .int .i64 0, .int .i64 0, .int .i64 0, .int .i64 0, .int .i64 0, .int .i64 0, .int .i64 0, .int .i64 0, .int .i64 0, .slice none 0 0] [.int .i64 0, .int .i64 0, .int .i64 x1, .int .i64 x2, .int .i64 x3, .int .i64 x4, .int .i64 x5, .int .i64 x6, .int .i64 0, .int .i64 0, .int .i64 0, .int .i64 0, .int .i64 0, .slice none 0 0] [.int .i64 0, .int .i64 0, .int .i64 x1, .int .i64 x2, .int .i64 x3, .int .i64 x4, .int .i64 x5, .int .i64 x6, .int .i64 0, .int .i64 0, .int .i64 0, .int .i64 0, .int .i64 0, .slice none 0 0] rfl rfl 14 rfl H8.out.2.1 (Nat.le_refl _) rfl (by kernel_rfl) (one14L _ _ _ _ _ _ _ _ _ _ _ _ _) ?_; intro w7 h1 h2 h3 h4)
          | (refine load_bk rfl 26 _ rfl (w.heap.size + 1) 0 [.int .i64 0, .int .i64 0, .int .i64 x1, .int .i64 x2, .int .i64 x3, .int .i64 x4, .int .i64 x5, .int .i64 x6, .int .i64 0, .int .i64 0, .int .i64 0, .int .i64 0, .int .i64 0, .slice none 0 0] [.int .i64 0, .int .i64 0, .int .i64 x1, .int .i64 x2, .int .i64 x3, .int .i64 x4, .int .i64 x5, .int .i64 x6, .int .i64 0, .int .i64 0, .int .i64 0, .int .i64 0, .int .i64 0, .slice none 0 0] rfl H8.out.1 rfl _ Try.underlying26 rfl (by kernel_rfl) ?_))
        exact ret_ct (ty := 26) rfl w.heap.size [.int .i64 0, .int .i64 0, .int .i64 x1, .int .i64 x2, .int .i64 x3, .int .i64 x4, .int .i64 x5, .int .i64 x6, .int .i64 0, .int .i64 0, .int .i64 0, .int .i64 0, .int .i64 0, .slice none 0 0] (.bool true) rfl h1 _ Try.underlying26 rfl (by kernel_rfl) rfl rfl ⟨_, _, _, _, _, _, _, _, _, _, _, _, _, _, [], true, rfl, Nums_nil _, HF.out, h3 _ _ (Nat.le_refl _) H8.out.2.2.1⟩
      · have HF : Hid (IsGet xs owZ false) := get_ne HO.out ce
        have hs : ¬ (strOfNums (obL ⟨0, 0, ⟨x1, x2, x3, x4, x5, x6⟩, 0, 0, 0, 0, 0, []⟩)).toList = (strOfNums xs).toList := fun e => ce (str_inj _ _ (ob_bytes hm) (bys_all (HV.out.1 _ (Below.refl _ _))) e)
        generalize strOfNums xs = st at *
        generalize strOfNums (obL ⟨0, 0, ⟨x1, x2, x3, x4, x5, x6⟩, 0, 0, 0, 0, 0, []⟩) = s8 at *
        have hs1 : (s8.toList == st.toList) = false := beq_eq_false_iff_ne.2 hs
        clear hm hX hh ce
        go_wp2_with (refine store_bk rfl 26 _ _ rfl w.heap.size 0 [.int .i64 0, .int .i64 0, .int .i64 0, .int .i64 0, .int .i64 0, .int .i64 0, .int .i64 0, .int .i64 0, .int .i64 0, .int .i64 0, .int .i64 0, .int .i64 0, .int .i64 0, .slice none 0 0] [.int .i64 0, .int .i64 0, .int .i64 0, .int .i64 0, .int .i64 0, .int .i64 0, .int .i64 0, .int .i64 0, .int .i64 0, .int .i64 0, .int .i64 0, .int .i64 0, .int .i64 0, .slice none 0 0] [.int .i64 0, .int .i64 0, .int .i64 0, .int .i64 0, .int .i64 0, .int .i64 0, .int .i64 0, .int .i64 0, .int .i64 0, .int .i64 0, .int .i64 0, .int .i64 0, .int .i64 0, .slice none 0 0] rfl rfl 14 rfl H8.out.2.1 (Nat.le_refl _) rfl (by kernel_rfl) one14z ?_; intro w7 h1 h2 h3 h4)
        exact ret_ct (ty := 26) rfl w.heap.size [.int .i64 0, .int .i64 0, .int .i64 0, .int .i64 0, .int .i64 0, .int .i64 0, .int .i64 0, .int .i64 0, .int .i64 0, .int .i64 0, .int .i64 0, .int .i64 0, .int .i64 0, .slice none 0 0] (.bool false) rfl h1 _ Try.underlying26 rfl (by kernel_rfl) rfl rfl (GetE.none (HF.out) (h3 _ _ (Nat.le_refl _) H8.out.2.2.1))
end Go.Proofs.Yteklcolphbcjlaa
