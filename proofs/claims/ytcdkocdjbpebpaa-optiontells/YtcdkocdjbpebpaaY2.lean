/- Texts that belong together, one behind the other: J7, J8, J9, N18, N19, N20, V14, N22, N15, N16, N17, N23, N24, N25, N26, N27, N28, N29, N30, N32, N33, N34, N35. -/
import Derived.Test.YtcdkocdjbpebpaaJ6
import Derived.Test.YtcdkocdjbpebpaaE4
import Derived.Test.YtcdkocdjbpebpaaA5
import Derived.Test.YtcdkocdjbpebpaaN2
import Derived.Test.YtcdkocdjbpebpaaD17
import Derived.Deep.RegionHeld3
import Derived.Test.YtcdkocdjbpebpaaJ4
import Derived.Test.YtcdkocdjbpebpaaR6
import Derived.Test.YtcdkocdjbpebpaaF1
import Derived.Test.YtcdkocdjbpebpaaV1
import Derived.Test.YtcdkocdjbpebpaaY1
import Derived.Test.YtcdkocdjbpebpaaV11
import Derived.ProofKit
import Derived.OpenShut
import Derived.Carry
import Derived.Lib.SmallJoins
import Derived.Deep.SlicePairs
import Derived.Test.YtcdkocdjbpebpaaR3
import Derived.Deep.CutRange
import Derived.Maps.Views
import Derived.Maps.OwnOps
import Derived.Maps.OwnSet
import Derived.Maps.AppendAt
import Derived.Maps.RangeWalk
import Derived.WideKeyEntry
import Derived.DeepKeys4
import Derived.Laws.IdiomCopy
import Derived.Lib.SlBuf
import Derived.Laws.OwnMore
import Derived.Test.YtcdkocdjbpebpaaN14
import Derived.OwnWalk
/- Walks of package job: May. -/
namespace Go.Proofs.Ytcdkocdjbpebpaa
open Go.RowKit Go.Shelf

theorem jm_eq {s : Sp} (j : Jb) (hs : maySp s = true) : jmB s j = (zeB j || isB s j) := by
  unfold jmB isB
  rw [hs]
  cases h : j.on with
  | true => simp [zeB, h]
  | false => simp
set_option maxHeartbeats 2000000 in
set_option maxRecDepth 100000 in
theorem jmay_any (ec et ex em ek ee : Int) (o : Bool) (n r u : Int) (b : Bool) (c d x : Int) (w : World) :
    Calls Try.prog 18 #[.agg #[.int .i64 ec, .int .i64 et, .int .i64 ex, .int .i64 em, .int .i64 ek, .int .i64 ee], .agg #[.bool o, .int .i64 n, .int .i64 r, .int .i64 u, .bool b, .int .i64 c, .int .i64 d, .int .i64 x]] w fun e w' => e = .returned (.bool (jmB ⟨ec, et, ex, em, ek, ee⟩ ⟨o, n, r, u, b, c, d, x⟩)) ∧ Below w.heap.size w w' := by
  have hJ : Eit ((w.alloc (.cells #[.int .i64 ec, .int .i64 et, .int .i64 ex, .int .i64 em, .int .i64 ek, .int .i64 ee] 26)).alloc (.cells #[.bool o, .int .i64 n, .int .i64 r, .int .i64 u, .bool b, .int .i64 c, .int .i64 d, .int .i64 x] 28)) (w.heap.size + 1) ⟨o, n, r, u, b, c, d, x⟩ := by have := Eit.new (w.alloc (.cells #[.int .i64 ec, .int .i64 et, .int .i64 ex, .int .i64 em, .int .i64 ek, .int .i64 ee] 26)) ⟨o, n, r, u, b, c, d, x⟩; simp only [World.size_alloc] at this; exact this
  have hS : Six ((w.alloc (.cells #[.int .i64 ec, .int .i64 et, .int .i64 ex, .int .i64 em, .int .i64 ek, .int .i64 ee] 26)).alloc (.cells #[.bool o, .int .i64 n, .int .i64 r, .int .i64 u, .bool b, .int .i64 c, .int .i64 d, .int .i64 x] 28)) w.heap.size (Sp.at ⟨ec, et, ex, em, ek, ee⟩) := (Six.new w ⟨ec, et, ex, em, ek, ee⟩).later ((Below.refl _ _).alloc (Nat.le_refl _) _)
  have HE : Hid (Below w.heap.size w ((w.alloc (.cells #[.int .i64 ec, .int .i64 et, .int .i64 ex, .int .i64 em, .int .i64 ek, .int .i64 ee] 26)).alloc (.cells #[.bool o, .int .i64 n, .int .i64 r, .int .i64 u, .bool b, .int .i64 c, .int .i64 d, .int .i64 x] 28))) := ((Below.refl _ _).alloc (by simp) _).alloc (by simp) _
  cases hm : maySp ⟨ec, et, ex, em, ek, ee⟩
  · have H : Hid (jmB ⟨ec, et, ex, em, ek, ee⟩ ⟨o, n, r, u, b, c, d, x⟩ = false) := jm_no hm
    have HM : Hid (maySp ⟨ec, et, ex, em, ek, ee⟩ = false) := hm
    clear hm
    go_enter Try.func18, Try.ntmps18
    go_wp2_with fail
    refine (spmay_any ec et ex em ek ee _).mono ?_
    rintro e w1 ⟨rfl, hb1⟩
    rw [HM.out]
    go_wp2
    go_ret
    exact ⟨ret_b H.out.symm, HE.out.trans (hb1.mono HE.out.size)⟩
  have HM : Hid (maySp ⟨ec, et, ex, em, ek, ee⟩ = true) := hm
  have hE := job_eql o n r u b c d x false 0 0 0 false 0 0 0
  obtain ⟨z, hz⟩ : ∃ z, eqJ ⟨o, n, r, u, b, c, d, x⟩ ⟨false, 0, 0, 0, false, 0, 0, 0⟩ = z := ⟨_, rfl⟩
  have hz' : zeB ⟨o, n, r, u, b, c, d, x⟩ = z := (eqJ_z _).symm.trans hz
  rw [hz] at hE
  obtain ⟨q, hq⟩ : ∃ q, isB ⟨ec, et, ex, em, ek, ee⟩ ⟨o, n, r, u, b, c, d, x⟩ = q := ⟨_, rfl⟩
  have HQ : Hid (isB ⟨ec, et, ex, em, ek, ee⟩ ⟨o, n, r, u, b, c, d, x⟩ = q) := hq
  have HR : Hid (jmB ⟨ec, et, ex, em, ek, ee⟩ ⟨o, n, r, u, b, c, d, x⟩ = (z || q)) := by show _ = _; rw [jm_eq _ hm, hz', hq]
  clear hz hz' hq hm
  cases z
  · go_enter Try.func18, Try.ntmps18
    go_wp2_with fail
    refine (spmay_any ec et ex em ek ee _).mono ?_
    rintro e w1 ⟨rfl, hb1⟩
    rw [HM.out]
    obtain ⟨x0, x1, x2, x3, x4, x5, x6, x7, _⟩ := (hJ.later hb1).op
    obtain ⟨y0, y1, y2, y3, y4, y5, _⟩ := (hS.later hb1).sp
    have s1 := (hJ.later hb1).lt
    have hB : Below w.heap.size w w1 := HE.out.trans (hb1.mono HE.out.size)
    clear hJ hS hb1
    go_wp2_with fail
    refine (isOf_any ec et ex em ek ee o n r u b c d x _).mono ?_
    rintro e w2 ⟨rfl, hb2⟩
    rw [HQ.out]
    go_wp2
    go_ret
    exact ⟨ret_b (by rw [HR.out]; rfl), hB.trans (hb2.mono hB.size)⟩
  · go_enter Try.func18, Try.ntmps18
    go_wp2_with fail
    refine (spmay_any ec et ex em ek ee _).mono ?_
    rintro e w1 ⟨rfl, hb1⟩
    rw [HM.out]
    obtain ⟨x0, x1, x2, x3, x4, x5, x6, x7, _⟩ := (hJ.later hb1).op
    obtain ⟨y0, y1, y2, y3, y4, y5, _⟩ := (hS.later hb1).sp
    have s1 := (hJ.later hb1).lt
    have hB : Below w.heap.size w w1 := HE.out.trans (hb1.mono HE.out.size)
    clear hJ hS hb1
    go_wp2
    go_ret
    exact ⟨ret_b (by rw [HR.out]; rfl), hB⟩
end Go.Proofs.Ytcdkocdjbpebpaa
/- Walks of package job: New. -/
namespace Go.Proofs.Ytcdkocdjbpebpaa
open Go.RowKit Go.Shelf

theorem Eit.put {w : World} {p : Nat} {j : Jb} (h : Eit w p j) (o : Bool) (n r u : Int) (b : Bool) (c d x : Int) : Eit (put8 w p o n r u b c d x) p ⟨o, n, r, u, b, c, d, x⟩ := by
  obtain ⟨o0, n0, r0, u0, b0, c0, d0, x0⟩ := j
  unfold put8
  have e0 := h.set (k := ⟨o, n0, r0, u0, b0, c0, d0, x0⟩) 0 (by omega) (.bool o) rfl (by intro i hi hne; rcases (show i = 0 ∨ i = 1 ∨ i = 2 ∨ i = 3 ∨ i = 4 ∨ i = 5 ∨ i = 6 ∨ i = 7 by omega) with rfl | rfl | rfl | rfl | rfl | rfl | rfl | rfl <;> first | rfl | exact absurd rfl hne)
  have e1 := e0.set (k := ⟨o, n, r0, u0, b0, c0, d0, x0⟩) 1 (by omega) (.int .i64 n) rfl (by intro i hi hne; rcases (show i = 0 ∨ i = 1 ∨ i = 2 ∨ i = 3 ∨ i = 4 ∨ i = 5 ∨ i = 6 ∨ i = 7 by omega) with rfl | rfl | rfl | rfl | rfl | rfl | rfl | rfl <;> first | rfl | exact absurd rfl hne)
  have e2 := e1.set (k := ⟨o, n, r, u0, b0, c0, d0, x0⟩) 2 (by omega) (.int .i64 r) rfl (by intro i hi hne; rcases (show i = 0 ∨ i = 1 ∨ i = 2 ∨ i = 3 ∨ i = 4 ∨ i = 5 ∨ i = 6 ∨ i = 7 by omega) with rfl | rfl | rfl | rfl | rfl | rfl | rfl | rfl <;> first | rfl | exact absurd rfl hne)
  have e3 := e2.set (k := ⟨o, n, r, u, b0, c0, d0, x0⟩) 3 (by omega) (.int .i64 u) rfl (by intro i hi hne; rcases (show i = 0 ∨ i = 1 ∨ i = 2 ∨ i = 3 ∨ i = 4 ∨ i = 5 ∨ i = 6 ∨ i = 7 by omega) with rfl | rfl | rfl | rfl | rfl | rfl | rfl | rfl <;> first | rfl | exact absurd rfl hne)
  have e4 := e3.set (k := ⟨o, n, r, u, b, c0, d0, x0⟩) 4 (by omega) (.bool b) rfl (by intro i hi hne; rcases (show i = 0 ∨ i = 1 ∨ i = 2 ∨ i = 3 ∨ i = 4 ∨ i = 5 ∨ i = 6 ∨ i = 7 by omega) with rfl | rfl | rfl | rfl | rfl | rfl | rfl | rfl <;> first | rfl | exact absurd rfl hne)
  have e5 := e4.set (k := ⟨o, n, r, u, b, c, d0, x0⟩) 5 (by omega) (.int .i64 c) rfl (by intro i hi hne; rcases (show i = 0 ∨ i = 1 ∨ i = 2 ∨ i = 3 ∨ i = 4 ∨ i = 5 ∨ i = 6 ∨ i = 7 by omega) with rfl | rfl | rfl | rfl | rfl | rfl | rfl | rfl <;> first | rfl | exact absurd rfl hne)
  have e6 := e5.set (k := ⟨o, n, r, u, b, c, d, x0⟩) 6 (by omega) (.int .i64 d) rfl (by intro i hi hne; rcases (show i = 0 ∨ i = 1 ∨ i = 2 ∨ i = 3 ∨ i = 4 ∨ i = 5 ∨ i = 6 ∨ i = 7 by omega) with rfl | rfl | rfl | rfl | rfl | rfl | rfl | rfl <;> first | rfl | exact absurd rfl hne)
  have e7 := e6.set (k := ⟨o, n, r, u, b, c, d, x⟩) 7 (by omega) (.int .i64 x) rfl (by intro i hi hne; rcases (show i = 0 ∨ i = 1 ∨ i = 2 ∨ i = 3 ∨ i = 4 ∨ i = 5 ∨ i = 6 ∨ i = 7 by omega) with rfl | rfl | rfl | rfl | rfl | rfl | rfl | rfl <;> first | rfl | exact absurd rfl hne)
  exact e7
end Go.Proofs.Ytcdkocdjbpebpaa
/- Walks of the document's own answers of chapter 11: May, Worst, Left. -/
namespace Go.Proofs.Ytcdkocdjbpebpaa
open Go.RowKit Go.Shelf
theorem rleft_any (o : Bool) (n r u : Int) (b : Bool) (c d x : Int) (w : World) (h : IntKind.i64.wrap (c - x) = c - x) (h2 : IntKind.i64.wrap (d - x) = d - x) :
    Calls Try.prog 24 #[.agg #[.bool o, .int .i64 n, .int .i64 r, .int .i64 u, .bool b, .int .i64 c, .int .i64 d, .int .i64 x]] w fun e w' => e = .returned (.int .i64 (lftV ⟨o, n, r, u, b, c, d, x⟩)) ∧ Below w.heap.size w w' := by
  cases o
  · have H : Hid (lftV ⟨false, n, r, u, b, c, d, x⟩ = 0) := by show _ = _; unfold lftV; rw [if_neg (by simp)]
    clear h h2
    go_enter Try.func24, Try.ntmps24
    go_wp2
    go_ret
    exact ⟨ret_i H.out.symm, (Below.refl _ _).alloc (by simp) _⟩
  by_cases p1 : c ≤ x
  · have H : Hid (lftV ⟨true, n, r, u, b, c, d, x⟩ = 0) := by show _ = _; unfold lftV; rw [if_neg]; rintro ⟨_, h, _⟩; simp only at h; omega
    clear h h2
    go_enter Try.func24, Try.ntmps24
    go_wp2
    go_ret
    exact ⟨ret_i H.out.symm, (Below.refl _ _).alloc (by simp) _⟩
  by_cases p2 : d ≤ x
  · have H : Hid (lftV ⟨true, n, r, u, b, c, d, x⟩ = 0) := by show _ = _; unfold lftV; rw [if_neg]; rintro ⟨_, _, h⟩; simp only at h; omega
    clear h h2
    go_enter Try.func24, Try.ntmps24
    go_wp2
    go_ret
    exact ⟨ret_i H.out.symm, (Below.refl _ _).alloc (by simp) _⟩
  by_cases p3 : d < c
  · have H : Hid (lftV ⟨true, n, r, u, b, c, d, x⟩ = d - x) := by show _ = _; unfold lftV; rw [if_pos ⟨rfl, by show x < c; omega, by show x < d; omega⟩, if_pos p3]
    clear h
    go_enter Try.func24, Try.ntmps24
    go_wp2
    go_ret
    exact ⟨ret_i H.out.symm, (Below.refl _ _).alloc (by simp) _⟩
  · have H : Hid (lftV ⟨true, n, r, u, b, c, d, x⟩ = c - x) := by show _ = _; unfold lftV; rw [if_pos ⟨rfl, by show x < c; omega, by show x < d; omega⟩, if_neg p3]
    clear h2
    go_enter Try.func24, Try.ntmps24
    go_wp2
    go_ret
    exact ⟨ret_i H.out.symm, (Below.refl _ _).alloc (by simp) _⟩
end Go.Proofs.Ytcdkocdjbpebpaa
/- Walks of package option: First. -/
namespace Go.Proofs.Ytcdkocdjbpebpaa
open Go.RowKit

/-- A list of options that is read. -/
def Ops (w : World) (v : Value) (n : Nat) (f : Nat → Int × Int × Int) : Prop := Sprs w v n (fun i => (f i).1) (fun i => (f i).2.1) (fun i => (f i).2.2)
theorem Ops.later {w w' : World} {v : Value} {n : Nat} {f : Nat → Int × Int × Int} (h : Ops w v n f) (hb : Below w.heap.size w w') : Ops w' v n f := Sprs.later h hb

/-- The first one of which no other one is ahead. -/
def IsFst (f : Nat → Int × Int × Int) (n k : Nat) : Prop := k < n ∧ (∀ t, t < n → ltO (f t) (f k) = false) ∧ ∀ t, t < k → ltO (f k) (f t) = true
theorem ltO_trans {x y z : Int × Int × Int} (h1 : ltO x y = true) (h2 : ltO y z = true) : ltO x z = true := swo_ltO.trans _ _ _ h1 h2
theorem ltO_ntrans {x y z : Int × Int × Int} (h1 : ltO x y = false) (h2 : ltO y z = false) : ltO x z = false := swo_ltO.ntrans _ _ _ h1 h2
theorem ltO_asymm {x y : Int × Int × Int} (h : ltO x y = true) : ltO y x = false := by
  cases h2 : ltO y x with
  | false => rfl
  | true => exact absurd (ltO_trans h h2) (by rw [swo_ltO.irrefl]; simp)
theorem IsFst.unique {f : Nat → Int × Int × Int} {n k k' : Nat} (h : IsFst f n k) (h' : IsFst f n k') : k = k' := by
  rcases Nat.lt_trichotomy k k' with c | c | c
  · have := h'.2.2 k c; rw [h.2.1 k' h'.1] at this; cases this
  · exact c
  · have := h.2.2 k' c; rw [h'.2.1 k h.1] at this; cases this
theorem isFst_one (f : Nat → Int × Int × Int) : IsFst f 1 0 := ⟨by omega, fun t ht => by rw [show t = 0 by omega]; exact swo_ltO.irrefl _, fun t ht => by omega⟩
theorem IsFst.old {f : Nat → Int × Int × Int} {j k : Nat} (h : IsFst f j k) (hl : ltO (f j) (f k) = false) : IsFst f (j + 1) k :=
  ⟨by have := h.1; omega, fun t ht => by
    by_cases c : t = j
    · rw [c]; exact hl
    · exact h.2.1 t (by omega), h.2.2⟩
theorem IsFst.new {f : Nat → Int × Int × Int} {j k : Nat} (h : IsFst f j k) (hl : ltO (f j) (f k) = true) : IsFst f (j + 1) j := by
  refine ⟨by omega, fun t ht => ?_, fun t ht => ?_⟩
  · by_cases c : t = j
    · rw [c]; exact swo_ltO.irrefl _
    · cases h2 : ltO (f t) (f j) with
      | false => rfl
      | true => have := ltO_trans h2 hl; rw [h.2.1 t (by omega)] at this; cases this
  · cases h2 : ltO (f j) (f t) with
    | true => rfl
    | false => have := ltO_ntrans h2 (h.2.1 t ht); rw [hl] at this; cases this
def FstE (n : Nat) (f : Nat → Int × Int × Int) (w : World) (e : Ending) (w' : World) : Prop :=
  ∃ r : Int, e = .returned (.int .i64 r) ∧ ((n = 0 ∧ r = -1) ∨ ∃ k : Nat, r = k ∧ IsFst f n k) ∧ Below w.heap.size w w'
def FstR (f : Nat → Int × Int × Int) (j : Nat) (r : Int) : Prop := (j = 0 ∧ r = -1) ∨ ∃ k : Nat, r = k ∧ IsFst f j k

set_option maxHeartbeats 2000000 in
set_option maxRecDepth 100000 in
theorem first14_any (n : Nat) (f : Nat → Int × Int × Int) (v : Value) (w : World) (h : Ops w v n f) (hn : n ≤ 1000) :
    Calls Try.prog 16 #[v] w (FstE n f w) := by
  obtain ⟨a, cap, rfl, h1, h2, h0, h3⟩ := h
  go_enter Try.func16, Try.ntmps16
  go_wp2_with fail
  go_loopw [3, 8] (fun vr vi wr => ∃ (j : Nat) (r : Int), vr = .int .i64 r ∧ vi = .int .i64 j ∧ j ≤ n ∧ Hid (FstR f j r) ∧ Below w.heap.size w wr) (fun _ vi _ => ((n : Int) - intOf vi).toNat)
  case atStart => exact ⟨0, -1, rfl, rfl, by omega, Or.inl ⟨rfl, rfl⟩, Below.refl _ _⟩
  case round =>
    obtain ⟨j, r, rfl, rfl, hj, HF, hbw⟩ := hrel
    by_cases hjn : j < n
    · have hjn' : (j : Int) < n := by omega
      obtain ⟨b, o, rfl, h4⟩ := h3 (by omega)
      obtain ⟨x0, x1, x2⟩ := h4 j hjn
      replace x0 := cell_later hbw x0
      replace x1 := cell_later hbw x1
      replace x2 := cell_later hbw x2
      have HB1 : Hid (Below w.heap.size w (wr.alloc (.cells #[.int .i64 (f j).1, .int .i64 (f j).2.1, .int .i64 (f j).2.2] 24))) := hbw.alloc hbw.size _
      by_cases hj0 : j = 0
      · subst hj0
        simp only [Nat.zero_mul, Nat.add_zero] at x0 x1 x2
        obtain rfl : r = -1 := by
          rcases HF.out with ⟨_, h⟩ | ⟨k, _, h⟩
          · exact h
          · exact absurd h.1 (by omega)
        go_wp2_with fail
        generalize (wr.alloc (.cells #[.int .i64 (f 0).1, .int .i64 (f 0).2.1, .int .i64 (f 0).2.2] 24)) = W at *
        refine wp_region_held_drew (S := fun _ : World => True) (by kernel_rfl) ?_ (fun hHeld => ?_)
        · trivial
        refine wpAnyH_take (i := 0) (oi := { dst := some 13, op := Op.move (Operand.tmp 3), type := 3, pos := _, after := _, guard := none }) (v := ?_) rfl (by kernel_rfl) (by kernel_rfl) (by kernel_rfl) (fun _ _ _ h => h) (Or.inl ⟨by rfl, ?_⟩) (by assumption) ?_
        rotate_left
        · intro wS hSw; (try dsimp only at hSw); go_simp; first | done | with_reducible rfl
        try simp only [Act.put, List.setIfInBounds_toArray, List.set_cons_zero, List.set_cons_succ]
        refine wpAnyH_take (i := 1) (oi := { dst := some 14, op := Op.binOp BinOp.eql 3 (Operand.tmp 13) (Operand.const (Value.int IntKind.i64 (-1))) 3, type := 4, pos := _, after := _, guard := none }) (v := ?_) rfl (by kernel_rfl) (by kernel_rfl) (by kernel_rfl) (fun _ _ _ h => h) (Or.inl ⟨by rfl, ?_⟩) (by assumption) ?_
        rotate_left
        · intro wS hSw; (try dsimp only at hSw); go_simp; first | done | with_reducible rfl
        try simp only [Act.put, List.setIfInBounds_toArray, List.set_cons_zero, List.set_cons_succ]
        refine wpAnyH_take (i := 2) (oi := { dst := some 15, op := Op.move (Operand.tmp 14), type := 4, pos := _, after := _, guard := none }) (v := ?_) rfl (by kernel_rfl) (by kernel_rfl) (by kernel_rfl) (fun _ _ _ h => h) (Or.inl ⟨by rfl, ?_⟩) (by assumption) ?_
        rotate_left
        · intro wS hSw; (try dsimp only at hSw); go_simp; first | done | with_reducible rfl
        try simp only [Act.put, List.setIfInBounds_toArray, List.set_cons_zero, List.set_cons_succ]
        refine wpAnyH_take (i := 3) (oi := { dst := some 16, op := Op.load 24 (Operand.tmp 5), type := 24, pos := _, after := _, guard := some (2, false) }) (v := undef) rfl (by kernel_rfl) (by kernel_rfl) (by kernel_rfl) (fun _ _ _ h => h) (Or.inr ⟨by rfl, rfl⟩) (by assumption) ?_
        try simp only [Act.put, List.setIfInBounds_toArray, List.set_cons_zero, List.set_cons_succ]
        refine wpAnyH_take (i := 4) (oi := { dst := some 17, op := Op.move (Operand.tmp 0), type := 22, pos := _, after := _, guard := some (2, false) }) (v := undef) rfl (by kernel_rfl) (by kernel_rfl) (by kernel_rfl) (fun _ _ _ h => h) (Or.inr ⟨by rfl, rfl⟩) (by assumption) ?_
        try simp only [Act.put, List.setIfInBounds_toArray, List.set_cons_zero, List.set_cons_succ]
        refine wpAnyH_take (i := 5) (oi := { dst := some 18, op := Op.move (Operand.tmp 3), type := 3, pos := _, after := _, guard := some (2, false) }) (v := undef) rfl (by kernel_rfl) (by kernel_rfl) (by kernel_rfl) (fun _ _ _ h => h) (Or.inr ⟨by rfl, rfl⟩) (by assumption) ?_
        try simp only [Act.put, List.setIfInBounds_toArray, List.set_cons_zero, List.set_cons_succ]
        refine wpAnyH_take (i := 6) (oi := { dst := some 19, op := Op.indexAddr 22 (Operand.tmp 17) (Operand.tmp 18), type := 0, pos := _, after := _, guard := some (2, false) }) (v := undef) rfl (by kernel_rfl) (by kernel_rfl) (by kernel_rfl) (fun _ _ _ h => h) (Or.inr ⟨by rfl, rfl⟩) (by assumption) ?_
        try simp only [Act.put, List.setIfInBounds_toArray, List.set_cons_zero, List.set_cons_succ]
        refine wpAnyH_take (i := 7) (oi := { dst := some 20, op := Op.load 24 (Operand.tmp 19), type := 24, pos := _, after := _, guard := some (2, false) }) (v := undef) rfl (by kernel_rfl) (by kernel_rfl) (by kernel_rfl) (fun _ _ _ h => h) (Or.inr ⟨by rfl, rfl⟩) (by assumption) ?_
        try simp only [Act.put, List.setIfInBounds_toArray, List.set_cons_zero, List.set_cons_succ]
        refine wpAnyH_take (i := 8) (oi := { dst := some 21, op := Op.call { callee := Callee.value (Operand.func 11), args := #[Operand.tmp 16, Operand.tmp 20], argTypes := #[24, 24] }, type := 4, pos := _, after := _, guard := some (2, false) }) (v := undef) rfl (by kernel_rfl) (by kernel_rfl) (by kernel_rfl) (fun _ _ _ h => h) (Or.inr ⟨by rfl, rfl⟩) (by assumption) ?_
        try simp only [Act.put, List.setIfInBounds_toArray, List.set_cons_zero, List.set_cons_succ]
        refine wpAnyH_take (i := 9) (oi := { dst := some 22, op := Op.pick (Operand.tmp 15) (Operand.const (Value.bool true)) (Operand.tmp 21), type := 4, pos := _, after := _, guard := none }) (v := ?_) rfl (by kernel_rfl) (by kernel_rfl) (by kernel_rfl) (fun _ _ _ h => h) (Or.inl ⟨by rfl, ?_⟩) (by assumption) ?_
        rotate_left
        · intro wS hSw; (try dsimp only at hSw); go_simp; first | done | with_reducible rfl
        try simp only [Act.put, List.setIfInBounds_toArray, List.set_cons_zero, List.set_cons_succ]
        refine wpAnyH_done (by kernel_rfl) ?_ _
        go_wp2
        go_roundw
        case rel => exact ⟨1, 0, by first | rfl | go_num, by first | rfl | go_num, by omega, Or.inr ⟨0, rfl, isFst_one f⟩, HB1.out.drew⟩
        case measure => simp [intOf]; omega
      · obtain ⟨k, rfl, HK⟩ : ∃ k : Nat, r = k ∧ Hid (IsFst f j k) := by
          rcases HF.out with ⟨h, _⟩ | ⟨k, h, h'⟩
          · omega
          · exact ⟨k, h, h'⟩
        have hk := HK.out.1
        have hk1 : ((k : Int) == -1) = false := by simp
        have hkn : (k : Int) < n := by omega
        obtain ⟨y0, y1, y2⟩ := h4 k (by omega)
        have hT := Thr.new wr (f j).1 (f j).2.1 (f j).2.2 24
        have z0 := cell_later HB1.out y0
        have z1 := cell_later HB1.out y1
        have z2 := cell_later HB1.out y2
        clear hj0 y0 y1 y2
        go_wp2_with fail
        generalize (wr.alloc (.cells #[.int .i64 (f j).1, .int .i64 (f j).2.1, .int .i64 (f j).2.2] 24)) = W at *
        have MK : Hid (∀ w' : World, Below W.heap.size W w' → (w'.cell? ⟨wr.heap.size, 0, none⟩ = some (.int .i64 (f j).1) ∧ w'.cell? ⟨wr.heap.size, 1, none⟩ = some (.int .i64 (f j).2.1) ∧ w'.cell? ⟨wr.heap.size, 2, none⟩ = some (.int .i64 (f j).2.2) ∧ w'.cell? ⟨b, o + k * 3, none⟩ = some (.int .i64 (f k).1) ∧ w'.cell? ⟨b, o + k * 3 + 1, none⟩ = some (.int .i64 (f k).2.1) ∧ w'.cell? ⟨b, o + k * 3 + 2, none⟩ = some (.int .i64 (f k).2.2)) ∧ Below W.heap.size W w') :=
          fun w' hb => ⟨⟨(hT.later hb).1, (hT.later hb).2.1, (hT.later hb).2.2, cell_later hb z0, cell_later hb z1, cell_later hb z2⟩, hb⟩
        clear hT z0 z1 z2 x0 x1 x2
        obtain ⟨q, hq⟩ : ∃ q, ltO (f j) (f k) = q := ⟨_, rfl⟩
        have HQ : Hid (ltO (f j) (f k) = q) := hq
        clear hq
        have hless := fun w => less14_any (f j).1 (f j).2.1 (f j).2.2 (f k).1 (f k).2.1 (f k).2.2 w
        cases q
        · go_region_held3 (fun w' => (w'.cell? ⟨wr.heap.size, 0, none⟩ = some (.int .i64 (f j).1) ∧ w'.cell? ⟨wr.heap.size, 1, none⟩ = some (.int .i64 (f j).2.1) ∧ w'.cell? ⟨wr.heap.size, 2, none⟩ = some (.int .i64 (f j).2.2) ∧ w'.cell? ⟨b, o + k * 3, none⟩ = some (.int .i64 (f k).1) ∧ w'.cell? ⟨b, o + k * 3 + 1, none⟩ = some (.int .i64 (f k).2.1) ∧ w'.cell? ⟨b, o + k * 3 + 2, none⟩ = some (.int .i64 (f k).2.2)) ∧ Below W.heap.size W w')
            (first | exact MK.out _ (bstep (by assumption) (sBel (by assumption))) | exact MK.out _ (Below.refl _ _).drew)
            (first | (go_at_call 11; refine (hless _).mono ?_; rintro e w3 ⟨rfl, hb3⟩; rw [HQ.out]))
          all_goals
            go_wp2
            go_roundw
            case rel => exact ⟨j + 1, k, by first | rfl | go_num, by first | rfl | go_num, by omega, Or.inr ⟨k, rfl, HK.out.old HQ.out⟩, HB1.out.trans ((sBel (by assumption)).mono HB1.out.size)⟩
            case measure => simp [intOf]; omega
        · go_region_held3 (fun w' => (w'.cell? ⟨wr.heap.size, 0, none⟩ = some (.int .i64 (f j).1) ∧ w'.cell? ⟨wr.heap.size, 1, none⟩ = some (.int .i64 (f j).2.1) ∧ w'.cell? ⟨wr.heap.size, 2, none⟩ = some (.int .i64 (f j).2.2) ∧ w'.cell? ⟨b, o + k * 3, none⟩ = some (.int .i64 (f k).1) ∧ w'.cell? ⟨b, o + k * 3 + 1, none⟩ = some (.int .i64 (f k).2.1) ∧ w'.cell? ⟨b, o + k * 3 + 2, none⟩ = some (.int .i64 (f k).2.2)) ∧ Below W.heap.size W w')
            (first | exact MK.out _ (bstep (by assumption) (sBel (by assumption))) | exact MK.out _ (Below.refl _ _).drew)
            (first | (go_at_call 11; refine (hless _).mono ?_; rintro e w3 ⟨rfl, hb3⟩; rw [HQ.out]))
          all_goals
            go_wp2
            go_roundw
            case rel => exact ⟨j + 1, j, by first | rfl | go_num, by first | rfl | go_num, by omega, Or.inr ⟨j, rfl, HK.out.new HQ.out⟩, HB1.out.trans ((sBel (by assumption)).mono HB1.out.size)⟩
            case measure => simp [intOf]; omega
    · have hjn' : ¬ (j : Int) < n := by omega
      obtain rfl : j = n := by omega
      go_wp2
      go_ret
      exact ⟨r, rfl, HF.out, hbw⟩
end Go.Proofs.Ytcdkocdjbpebpaa
/- Walks of package option: Of. -/
namespace Go.Proofs.Ytcdkocdjbpebpaa
open Go.RowKit

/-- How far a ring is. -/
def FarIs (N B m k q : Int) : Prop := (mayB m k = false ∧ q = k) ∨ (1 ≤ m ∧ m ≤ k ∧ k ≤ 6 ∧ ∃ n : Nat, q = n ∧ IsFar (ringOf N B) m k.toNat n)
theorem FarIs.unique {N B m k q q' : Int} (h : FarIs N B m k q) (h' : FarIs N B m k q') : q = q' := by
  rcases h with ⟨h1, e1⟩ | ⟨m0, mk, k6, p, e1, hp⟩ <;> rcases h' with ⟨h2, e2⟩ | ⟨m0', mk', k6', p', e2, hp'⟩
  · exact e1.trans e2.symm
  · rw [mayB_mk m0' mk' k6'] at h1; cases h1
  · rw [mayB_mk m0 mk k6] at h2; cases h2
  · rw [e1, e2, hp.unique hp']
theorem far14_any (N B m k : Int) (w : World) (b0 : 0 ≤ B) (_k : True) :
    Calls Try.prog 23 #[.agg #[.int .i64 N, .int .u64 B], .int .i64 m, .int .i64 k] w fun e w' => ∃ q, e = .returned (.int .i64 q) ∧ FarIs N B m k q ∧ Below w.heap.size w w' := by
  cases hm : mayB m k with
  | false =>
    refine (far_no N B m k w hm).mono ?_
    rintro e w' ⟨rfl, hb⟩
    exact ⟨k, rfl, Or.inl ⟨hm, rfl⟩, hb⟩
  | true =>
    obtain ⟨m0, mk, k6⟩ := mayB_of hm
    obtain ⟨K, rfl⟩ := Int.eq_ofNat_of_zero_le (show 0 ≤ k by omega)
    refine (far_in N B m K w b0 m0 mk k6).mono ?_
    rintro e w' ⟨n, rfl, hn, hb⟩
    exact ⟨n, rfl, Or.inr ⟨m0, mk, k6, n, rfl, hn⟩, hb⟩
theorem Tre.newO (w : World) (u m e : Int) : Tre (w.alloc (.cells #[.int .i64 u, .int .i64 m, .int .i64 e] 24)) w.heap.size u m e :=
  ⟨Thr.new w u m e _, fun i hi => by rcases (show i = 0 ∨ i = 1 ∨ i = 2 by omega) with rfl | rfl | rfl <;> simp⟩

theorem below_a1 (w : World) (p : Obj) : Below w.heap.size w (w.alloc p) := (Below.refl _ _).alloc (Nat.le_refl _) _
theorem below_a2 (w : World) (p q : Obj) : Below w.heap.size w ((w.alloc p).alloc q) := (below_a1 w p).alloc (by simp) _
theorem below_a3 (w : World) (p q r : Obj) : Below w.heap.size w (((w.alloc p).alloc q).alloc r) := (below_a2 w p q).alloc (by simp; omega) _

/-- Need it not run, and would it? -/
def ofB14 (j : Jb) : Bool := j.on && !j.md && decide (lftV j ≠ 0)
def OfE14 (N B m k id : Int) (j : Jb) (w : World) (e : Ending) (w' : World) : Prop :=
  Below w.heap.size w w' ∧ ((ofB14 j = false ∧ e = .returned (.tuple #[.agg #[.int .i64 0, .int .i64 0, .int .i64 0], .bool false])) ∨
    (ofB14 j = true ∧ ∃ q, FarIs N B m k q ∧ e = .returned (.tuple #[.agg #[.int .i64 q, .int .i64 j.due, .int .i64 id], .bool true])))
theorem far5 {w w' : World} {p : Nat} {em ek u N B : Int} (h : w'.cell? ⟨w.heap.size, 3, none⟩ = some (.int .i64 em) ∧ w'.cell? ⟨w.heap.size, 4, none⟩ = some (.int .i64 ek) ∧ w'.cell? ⟨w.heap.size + 1, 3, none⟩ = some (.int .i64 u) ∧ w'.cell? ⟨w.heap.size + 2, 0, none⟩ = some (.int .i64 N) ∧ w'.cell? ⟨w.heap.size + 2, 1, none⟩ = some (.int .u64 B)) (hp : w.heap.size + 3 ≤ p) (x y z : Value) : (((w'.setCell ⟨p, 0, none⟩ x).setCell ⟨p, 1, none⟩ y).setCell ⟨p, 2, none⟩ z).cell? ⟨w.heap.size, 3, none⟩ = some (.int .i64 em) ∧ (((w'.setCell ⟨p, 0, none⟩ x).setCell ⟨p, 1, none⟩ y).setCell ⟨p, 2, none⟩ z).cell? ⟨w.heap.size, 4, none⟩ = some (.int .i64 ek) ∧ (((w'.setCell ⟨p, 0, none⟩ x).setCell ⟨p, 1, none⟩ y).setCell ⟨p, 2, none⟩ z).cell? ⟨w.heap.size + 1, 3, none⟩ = some (.int .i64 u) ∧ (((w'.setCell ⟨p, 0, none⟩ x).setCell ⟨p, 1, none⟩ y).setCell ⟨p, 2, none⟩ z).cell? ⟨w.heap.size + 2, 0, none⟩ = some (.int .i64 N) ∧ (((w'.setCell ⟨p, 0, none⟩ x).setCell ⟨p, 1, none⟩ y).setCell ⟨p, 2, none⟩ z).cell? ⟨w.heap.size + 2, 1, none⟩ = some (.int .u64 B) := by
  have far : ∀ (w1 : World) (k b j : Nat) (v : Value), b ≠ p → (w1.setCell ⟨p, k, none⟩ v).cell? ⟨b, j, none⟩ = w1.cell? ⟨b, j, none⟩ := fun w1 k b j v hn => World.cell?_setCell_far _ _ _ _ (fun e => hn e.symm)
  obtain ⟨h0, h1, h2, h3, h4⟩ := h
  refine ⟨?_, ?_, ?_, ?_, ?_⟩
  · rw [far _ _ _ _ _ (by omega), far _ _ _ _ _ (by omega), far _ _ _ _ _ (by omega)]; exact h0
  · rw [far _ _ _ _ _ (by omega), far _ _ _ _ _ (by omega), far _ _ _ _ _ (by omega)]; exact h1
  · rw [far _ _ _ _ _ (by omega), far _ _ _ _ _ (by omega), far _ _ _ _ _ (by omega)]; exact h2
  · rw [far _ _ _ _ _ (by omega), far _ _ _ _ _ (by omega), far _ _ _ _ _ (by omega)]; exact h3
  · rw [far _ _ _ _ _ (by omega), far _ _ _ _ _ (by omega), far _ _ _ _ _ (by omega)]; exact h4

set_option maxHeartbeats 4000000 in
set_option maxRecDepth 100000 in
theorem of14_any (id ec et ex em ek ee : Int) (o : Bool) (n r u : Int) (b : Bool) (c d x N B : Int) (w : World) (h1 : IntKind.i64.wrap (c - x) = c - x) (h2 : IntKind.i64.wrap (d - x) = d - x) (b0 : 0 ≤ B) :
    Calls Try.prog 9 #[.int .i64 id, .agg #[.int .i64 ec, .int .i64 et, .int .i64 ex, .int .i64 em, .int .i64 ek, .int .i64 ee], .agg #[.bool o, .int .i64 n, .int .i64 r, .int .i64 u, .bool b, .int .i64 c, .int .i64 d, .int .i64 x], .agg #[.int .i64 N, .int .u64 B]] w (OfE14 N B em ek id ⟨o, n, r, u, b, c, d, x⟩ w) := by
  have HW : Hid (IntKind.i64.wrap (c - x) = c - x ∧ IntKind.i64.wrap (d - x) = d - x) := ⟨h1, h2⟩
  have hBe : Below w.heap.size w ((((w.alloc (.cells #[.int .i64 ec, .int .i64 et, .int .i64 ex, .int .i64 em, .int .i64 ek, .int .i64 ee] 26)).alloc (.cells #[.bool o, .int .i64 n, .int .i64 r, .int .i64 u, .bool b, .int .i64 c, .int .i64 d, .int .i64 x] 28)).alloc (.cells #[.int .i64 N, .int .u64 B] 31)).alloc (.cells #[.int .i64 0, .int .i64 0, .int .i64 0] 24)) := (((((Below.refl _ _).alloc (Nat.le_refl _) _).alloc (by simp) _).alloc (by simp; omega) _).alloc (by simp; omega) _)
  have HBe : Hid (Below w.heap.size w ((((w.alloc (.cells #[.int .i64 ec, .int .i64 et, .int .i64 ex, .int .i64 em, .int .i64 ek, .int .i64 ee] 26)).alloc (.cells #[.bool o, .int .i64 n, .int .i64 r, .int .i64 u, .bool b, .int .i64 c, .int .i64 d, .int .i64 x] 28)).alloc (.cells #[.int .i64 N, .int .u64 B] 31)).alloc (.cells #[.int .i64 0, .int .i64 0, .int .i64 0] 24))) := hBe
  have k6 : True := trivial
  clear h1 h2 hBe
  cases o with
  | false =>
    have HF : Hid (ofB14 ⟨false, n, r, u, b, c, d, x⟩ = false) := by show _ = _; simp [ofB14]
    go_enter Try.func9, Try.ntmps9
    go_wp2_with fail
    refine bodyPost_ret (v := .tuple #[.agg #[.int .i64 0, .int .i64 0, .int .i64 0], .bool false]) ?_ rfl ⟨HBe.out, Or.inl ⟨HF.out, rfl⟩⟩
    simp [results, Try.results9, go_sem]
  | true =>
    cases b with
    | true =>
      have HF : Hid (ofB14 ⟨true, n, r, u, true, c, d, x⟩ = false) := by show _ = _; simp [ofB14]
      go_enter Try.func9, Try.ntmps9
      go_wp2_with fail
      refine bodyPost_ret (v := .tuple #[.agg #[.int .i64 0, .int .i64 0, .int .i64 0], .bool false]) ?_ rfl ⟨HBe.out, Or.inl ⟨HF.out, rfl⟩⟩
      simp [results, Try.results9, go_sem]
    | false =>
      obtain ⟨l, hl⟩ : ∃ l, lftV ⟨true, n, r, u, false, c, d, x⟩ = l := ⟨_, rfl⟩
      have HL : Hid (lftV ⟨true, n, r, u, false, c, d, x⟩ = l) := hl
      clear hl
      go_enter Try.func9, Try.ntmps9
      go_wp2_with fail
      refine (left_any true n r u false c d x _ HW.out.1 HW.out.2).mono ?_
      rintro e w1 ⟨rfl, hb1⟩
      rw [HL.out]
      have HT : Hid (Tre w1 (w.heap.size + 3) 0 0 0) := by
        have := Tre.newO (((w.alloc (.cells #[.int .i64 ec, .int .i64 et, .int .i64 ex, .int .i64 em, .int .i64 ek, .int .i64 ee] 26)).alloc (.cells #[.bool true, .int .i64 n, .int .i64 r, .int .i64 u, .bool false, .int .i64 c, .int .i64 d, .int .i64 x] 28)).alloc (.cells #[.int .i64 N, .int .u64 B] 31)) 0 0 0
        simp only [World.size_alloc] at this
        exact this.later hb1
      have c0 : w1.cell? ⟨w.heap.size, 3, none⟩ = some (.int .i64 em) := cell_later hb1 (cell_later (below_a3 (w.alloc (.cells #[.int .i64 ec, .int .i64 et, .int .i64 ex, .int .i64 em, .int .i64 ek, .int .i64 ee] 26)) _ _ _) (by simp))
      have c1 : w1.cell? ⟨w.heap.size, 4, none⟩ = some (.int .i64 ek) := cell_later hb1 (cell_later (below_a3 (w.alloc (.cells #[.int .i64 ec, .int .i64 et, .int .i64 ex, .int .i64 em, .int .i64 ek, .int .i64 ee] 26)) _ _ _) (by simp))
      have c2 : w1.cell? ⟨w.heap.size + 1, 3, none⟩ = some (.int .i64 u) := cell_later hb1 (cell_later (below_a2 ((w.alloc (.cells #[.int .i64 ec, .int .i64 et, .int .i64 ex, .int .i64 em, .int .i64 ek, .int .i64 ee] 26)).alloc (.cells #[.bool true, .int .i64 n, .int .i64 r, .int .i64 u, .bool false, .int .i64 c, .int .i64 d, .int .i64 x] 28)) _ _) (by simp))
      have hR0 := (fun X : World => (by simp : (X.alloc (.cells #[.int .i64 N, .int .u64 B] 31)).cell? ⟨X.heap.size, 0, none⟩ = some (.int .i64 N))) ((w.alloc (.cells #[.int .i64 ec, .int .i64 et, .int .i64 ex, .int .i64 em, .int .i64 ek, .int .i64 ee] 26)).alloc (.cells #[.bool true, .int .i64 n, .int .i64 r, .int .i64 u, .bool false, .int .i64 c, .int .i64 d, .int .i64 x] 28))
      have hR1 := (fun X : World => (by simp : (X.alloc (.cells #[.int .i64 N, .int .u64 B] 31)).cell? ⟨X.heap.size, 1, none⟩ = some (.int .u64 B))) ((w.alloc (.cells #[.int .i64 ec, .int .i64 et, .int .i64 ex, .int .i64 em, .int .i64 ek, .int .i64 ee] 26)).alloc (.cells #[.bool true, .int .i64 n, .int .i64 r, .int .i64 u, .bool false, .int .i64 c, .int .i64 d, .int .i64 x] 28))
      simp only [World.size_alloc] at hR0 hR1
      have c3 : w1.cell? ⟨w.heap.size + 2, 0, none⟩ = some (.int .i64 N) := cell_later hb1 (cell_later (below_a1 (((w.alloc (.cells #[.int .i64 ec, .int .i64 et, .int .i64 ex, .int .i64 em, .int .i64 ek, .int .i64 ee] 26)).alloc (.cells #[.bool true, .int .i64 n, .int .i64 r, .int .i64 u, .bool false, .int .i64 c, .int .i64 d, .int .i64 x] 28)).alloc (.cells #[.int .i64 N, .int .u64 B] 31)) _) hR0)
      have c4 : w1.cell? ⟨w.heap.size + 2, 1, none⟩ = some (.int .u64 B) := cell_later hb1 (cell_later (below_a1 (((w.alloc (.cells #[.int .i64 ec, .int .i64 et, .int .i64 ex, .int .i64 em, .int .i64 ek, .int .i64 ee] 26)).alloc (.cells #[.bool true, .int .i64 n, .int .i64 r, .int .i64 u, .bool false, .int .i64 c, .int .i64 d, .int .i64 x] 28)).alloc (.cells #[.int .i64 N, .int .u64 B] 31)) _) hR1)
      clear hR0 hR1
      have HE : Hid (Below w.heap.size w w1) := HBe.out.trans (hb1.mono HBe.out.size)
      obtain ⟨⟨z0, z1, z2⟩, y0, y1, y2⟩ := HT.out.tri
      have s3 := HT.out.1.lt
      by_cases hl0 : l = 0
      · subst hl0
        have HF : Hid (ofB14 ⟨true, n, r, u, false, c, d, x⟩ = false) := by show _ = _; simp [ofB14, HL.out]
        clear hb1
        have HE0 : Hid (Tre (((w1.setCell ⟨w.heap.size + 3, 0, none⟩ (.int .i64 0)).setCell ⟨w.heap.size + 3, 1, none⟩ (.int .i64 0)).setCell ⟨w.heap.size + 3, 2, none⟩ (.int .i64 0)) (w.heap.size + 3) 0 0 0 ∧ Below w.heap.size w (((w1.setCell ⟨w.heap.size + 3, 0, none⟩ (.int .i64 0)).setCell ⟨w.heap.size + 3, 1, none⟩ (.int .i64 0)).setCell ⟨w.heap.size + 3, 2, none⟩ (.int .i64 0))) := ⟨HT.out.put 0 0 0, below_put3 HE.out (by omega) _ _ _⟩
        go_wp2_with fail
        generalize (((w1.setCell ⟨w.heap.size + 3, 0, none⟩ (.int .i64 0)).setCell ⟨w.heap.size + 3, 1, none⟩ (.int .i64 0)).setCell ⟨w.heap.size + 3, 2, none⟩ (.int .i64 0)) = w2 at *
        obtain ⟨⟨v0, v1, v2⟩, _⟩ := HE0.out.1.tri
        refine bodyPost_ret (v := .tuple #[.agg #[.int .i64 0, .int .i64 0, .int .i64 0], .bool false]) ?_ rfl ⟨HE0.out.2, Or.inl ⟨HF.out, rfl⟩⟩
        simp [results, Try.results9, go_sem, v0, v1, v2]
      · have HF : Hid (ofB14 ⟨true, n, r, u, false, c, d, x⟩ = true) := by show _ = _; simp [ofB14, HL.out, hl0]
        have hl1 : (l == 0) = false := by simpa using hl0
        have MK : Hid (∀ w' : World, Below w1.heap.size w1 w' → (w'.cell? ⟨w.heap.size, 3, none⟩ = some (.int .i64 em) ∧ w'.cell? ⟨w.heap.size, 4, none⟩ = some (.int .i64 ek) ∧ w'.cell? ⟨w.heap.size + 1, 3, none⟩ = some (.int .i64 u) ∧ w'.cell? ⟨w.heap.size + 2, 0, none⟩ = some (.int .i64 N) ∧ w'.cell? ⟨w.heap.size + 2, 1, none⟩ = some (.int .u64 B)) ∧ Below w1.heap.size w1 w') := fun w' hb => ⟨⟨cell_later hb c0, cell_later hb c1, cell_later hb c2, cell_later hb c3, cell_later hb c4⟩, hb⟩
        clear hb1 z0 z1 z2 y0 y1 y2 hl0 c0 c1 c2 c3 c4
        go_wp2_with fail
        refine wp_region_held_drew (S := (fun w' : World => w'.cell? ⟨w.heap.size, 3, none⟩ = some (.int .i64 em) ∧ w'.cell? ⟨w.heap.size, 4, none⟩ = some (.int .i64 ek) ∧ w'.cell? ⟨w.heap.size + 1, 3, none⟩ = some (.int .i64 u) ∧ w'.cell? ⟨w.heap.size + 2, 0, none⟩ = some (.int .i64 N) ∧ w'.cell? ⟨w.heap.size + 2, 1, none⟩ = some (.int .u64 B))) (by kernel_rfl) ?_ (fun hHeld => ?_)
        · exact (MK.out _ (Below.refl _ _).drew).1
        refine wpAnyH_take (i := 0) (oi := { dst := some 23, op := Op.load 31 (Operand.tmp 7), type := 31, pos := _, after := _, guard := none }) (v := ?_) rfl (by kernel_rfl) (by kernel_rfl) (by kernel_rfl) (fun _ _ _ h => h) (Or.inl ⟨by rfl, ?_⟩) (by assumption) ?_
        rotate_left
        · intro wS hSw; (try dsimp only at hSw); go_simp; first | done | with_reducible rfl
        try simp only [Act.put, List.setIfInBounds_toArray, List.set_cons_zero, List.set_cons_succ]
        refine wpAnyH_take (i := 1) (oi := { dst := some 24, op := Op.fieldAddr 26 (Operand.tmp 5) 3, type := 0, pos := _, after := _, guard := none }) (v := ?_) rfl (by kernel_rfl) (by kernel_rfl) (by kernel_rfl) (fun _ _ _ h => h) (Or.inl ⟨by rfl, ?_⟩) (by assumption) ?_
        rotate_left
        · intro wS hSw; (try dsimp only at hSw); go_simp; first | done | with_reducible rfl
        try simp only [Act.put, List.setIfInBounds_toArray, List.set_cons_zero, List.set_cons_succ]
        refine wpAnyH_take (i := 2) (oi := { dst := some 25, op := Op.load 3 (Operand.tmp 24), type := 3, pos := _, after := _, guard := none }) (v := ?_) rfl (by kernel_rfl) (by kernel_rfl) (by kernel_rfl) (fun _ _ _ h => h) (Or.inl ⟨by rfl, ?_⟩) (by assumption) ?_
        rotate_left
        · intro wS hSw; (try dsimp only at hSw); go_simp; first | done | with_reducible rfl
        try simp only [Act.put, List.setIfInBounds_toArray, List.set_cons_zero, List.set_cons_succ]
        refine wpAnyH_take (i := 3) (oi := { dst := some 26, op := Op.fieldAddr 26 (Operand.tmp 5) 4, type := 0, pos := _, after := _, guard := none }) (v := ?_) rfl (by kernel_rfl) (by kernel_rfl) (by kernel_rfl) (fun _ _ _ h => h) (Or.inl ⟨by rfl, ?_⟩) (by assumption) ?_
        rotate_left
        · intro wS hSw; (try dsimp only at hSw); go_simp; first | done | with_reducible rfl
        try simp only [Act.put, List.setIfInBounds_toArray, List.set_cons_zero, List.set_cons_succ]
        refine wpAnyH_take (i := 4) (oi := { dst := some 27, op := Op.load 3 (Operand.tmp 26), type := 3, pos := _, after := _, guard := none }) (v := ?_) rfl (by kernel_rfl) (by kernel_rfl) (by kernel_rfl) (fun _ _ _ h => h) (Or.inl ⟨by rfl, ?_⟩) (by assumption) ?_
        rotate_left
        · intro wS hSw; (try dsimp only at hSw); go_simp; first | done | with_reducible rfl
        try simp only [Act.put, List.setIfInBounds_toArray, List.set_cons_zero, List.set_cons_succ]
        refine wpAnyH_take (i := 6) (oi := { dst := some 29, op := Op.fieldAddr 28 (Operand.tmp 6) 3, type := 0, pos := _, after := _, guard := none }) (v := ?_) rfl (by kernel_rfl) (by kernel_rfl) (by kernel_rfl) (fun _ _ _ h => h) (Or.inl ⟨by rfl, ?_⟩) (by assumption) ?_
        rotate_left
        · intro wS hSw; (try dsimp only at hSw); go_simp; first | done | with_reducible rfl
        try simp only [Act.put, List.setIfInBounds_toArray, List.set_cons_zero, List.set_cons_succ]
        refine wpAnyH_take (i := 7) (oi := { dst := some 30, op := Op.load 3 (Operand.tmp 29), type := 3, pos := _, after := _, guard := none }) (v := ?_) rfl (by kernel_rfl) (by kernel_rfl) (by kernel_rfl) (fun _ _ _ h => h) (Or.inl ⟨by rfl, ?_⟩) (by assumption) ?_
        rotate_left
        · intro wS hSw; (try dsimp only at hSw); go_simp; first | done | with_reducible rfl
        try simp only [Act.put, List.setIfInBounds_toArray, List.set_cons_zero, List.set_cons_succ]
        refine wpAnyH_take (i := 8) (oi := { dst := some 31, op := Op.move (Operand.tmp 0), type := 3, pos := _, after := _, guard := none }) (v := ?_) rfl (by kernel_rfl) (by kernel_rfl) (by kernel_rfl) (fun _ _ _ h => h) (Or.inl ⟨by rfl, ?_⟩) (by assumption) ?_
        rotate_left
        · intro wS hSw; (try dsimp only at hSw); go_simp; first | done | with_reducible rfl
        try simp only [Act.put, List.setIfInBounds_toArray, List.set_cons_zero, List.set_cons_succ]
        refine wpAnyH_ready (rs := [5]) (by kernel_rfl) (by simp) ?_
        refine AllReadyH.cons (o := { dst := some 28, op := Op.call { callee := Callee.value (Operand.func 23), args := #[Operand.tmp 23, Operand.tmp 25, Operand.tmp 27], argTypes := #[31, 3, 3] }, type := 3, pos := _, after := _, guard := none }) rfl (fun K hK => ?_) AllReadyH.nil
        go_simp
        refine (far14_any N B em ek _ b0 k6).mono ?_
        rintro e x2 ⟨q, rfl, hq, hb⟩
        have HQ : Hid (FarIs N B em ek q) := hq
        have HB2 : Hid (Below w1.heap.size w1 x2) := ((Below.refl w1.heap.size w1).drew).trans hb
        have HT2 : Hid (Tre x2 (w.heap.size + 3) 0 0 0) := (HT.out.later (Below.refl _ _).drew).later hb
        clear hb hq
        go_wp2_with fail
        refine hK.out _ _ ?_ (fun hHeld => ?_)
        · exact (MK.out _ HB2.out).1
        clear hK K
        try simp only [Act.put, List.setIfInBounds_toArray, List.set_cons_zero, List.set_cons_succ]
        refine wpAnyH_take (i := 9) (oi := { dst := some 32, op := Op.build 24 #[(0, Operand.tmp 28), (1, Operand.tmp 30), (2, Operand.tmp 31)], type := 24, pos := _, after := _, guard := none }) (v := ?_) rfl (by kernel_rfl) (by kernel_rfl) (by kernel_rfl) (fun _ _ _ h => h) (Or.inl ⟨by rfl, ?_⟩) (by assumption) ?_
        rotate_left
        · intro wS hSw; (try dsimp only at hSw); go_simp; first | done | with_reducible rfl
        try simp only [Act.put, List.setIfInBounds_toArray, List.set_cons_zero, List.set_cons_succ]
        obtain ⟨⟨z0, z1, z2⟩, y0, y1, y2⟩ := HT2.out.tri
        refine wpAnyH_ready (rs := [10]) (by kernel_rfl) (by simp) ?_
        refine AllReadyH.cons (o := { dst := none, op := Op.store 24 (Operand.tmp 8) (Operand.tmp 32), type := 0, pos := _, after := _, guard := none }) rfl (fun K hK => ?_) AllReadyH.nil
        go_simp
        obtain ⟨x3, e3⟩ : ∃ y, ((x2.setCell ⟨w.heap.size + 3, 0, none⟩ (.int .i64 q)).setCell ⟨w.heap.size + 3, 1, none⟩ (.int .i64 u)).setCell ⟨w.heap.size + 3, 2, none⟩ (.int .i64 id) = y := ⟨_, rfl⟩
        rw [e3]
        have HT3 : Hid (Tre x3 (w.heap.size + 3) q u id) := e3 ▸ HT2.out.put q u id
        have HB3 : Hid (Below w.heap.size w x3) := e3 ▸ below_put3 (HE.out.trans (HB2.out.mono HE.out.size)) (by omega) _ _ _
        have e4 := e3
        clear z0 z1 z2 y0 y1 y2 e3
        refine hK.out _ _ ?_ (fun hHeld => ?_)
        · exact e4 ▸ far5 (MK.out _ HB2.out).1 (by omega) _ _ _
        clear hK K
        try simp only [Act.put, List.setIfInBounds_toArray, List.set_cons_zero, List.set_cons_succ]
        refine wpAnyH_take (i := 11) (oi := { dst := some 9, op := Op.assign (Operand.const (Value.bool true)), type := 4, pos := _, after := _, guard := none }) (v := ?_) rfl (by kernel_rfl) (by kernel_rfl) (by kernel_rfl) (fun _ _ _ h => h) (Or.inl ⟨by rfl, ?_⟩) (by assumption) ?_
        rotate_left
        · intro wS hSw; (try dsimp only at hSw); go_simp; first | done | with_reducible rfl
        try simp only [Act.put, List.setIfInBounds_toArray, List.set_cons_zero, List.set_cons_succ]
        refine wpAnyH_done (by kernel_rfl) ?_ _
        obtain ⟨⟨v0, v1, v2⟩, _⟩ := HT3.out.tri
        go_wp2_with fail
        refine bodyPost_ret (v := .tuple #[.agg #[.int .i64 q, .int .i64 u, .int .i64 id], .bool true]) ?_ rfl ⟨HB3.out, Or.inr ⟨HF.out, q, HQ.out, rfl⟩⟩
        simp [results, Try.results9, go_sem, v0, v1, v2]
end Go.Proofs.Ytcdkocdjbpebpaa
/- The chapter's example of chapter 14. -/
namespace Go.Proofs.Ytcdkocdjbpebpaa
open Go.RowKit

/-- Are two options the same? -/
def eqO (x y : Int × Int × Int) : Bool := decide (x.1 = y.1) && (decide (x.2.1 = y.2.1) && decide (x.2.2 = y.2.2))
theorem eqO_self (x : Int × Int × Int) : eqO x x = true := by simp [eqO]
theorem eqO_iff {x y : Int × Int × Int} : eqO x y = true ↔ x = y := by
  obtain ⟨a, b, c⟩ := x
  obtain ⟨d, e, f⟩ := y
  simp [eqO]
set_option maxHeartbeats 1000000 in
theorem op_eql (a b c d e f : Int) (w : World) : (binOp .eql 24 (.agg #[.int .i64 a, .int .i64 b, .int .i64 c]) (.agg #[.int .i64 d, .int .i64 e, .int .i64 f])).run Try.prog w = .ok (.bool (eqO (a, b, c) (d, e, f))) w := by
  unfold eqO
  by_cases h0 : a = d
  rotate_left
  · simp [go_sem, h0]
  by_cases h1 : b = e
  rotate_left
  · simp [go_sem, h0, h1]
  by_cases h2 : c = f
  rotate_left
  · simp [go_sem, h0, h1, h2]
  simp [go_sem, h0, h1, h2]
set_option maxHeartbeats 1000000 in
theorem op_neq (a b c d e f : Int) (w : World) : (binOp .neq 24 (.agg #[.int .i64 a, .int .i64 b, .int .i64 c]) (.agg #[.int .i64 d, .int .i64 e, .int .i64 f])).run Try.prog w = .ok (.bool (!eqO (a, b, c) (d, e, f))) w := by
  unfold eqO
  by_cases h0 : a = d
  rotate_left
  · simp [go_sem, h0]
  by_cases h1 : b = e
  rotate_left
  · simp [go_sem, h0, h1]
  by_cases h2 : c = f
  rotate_left
  · simp [go_sem, h0, h1, h2]
  simp [go_sem, h0, h1, h2]

def twoO (i : Nat) : Int × Int × Int := if i = 0 then (2, 5, 1) else (1, 9, 2)
theorem ops_two (w : World) : Ops (w.alloc (.cells #[.int .i64 2, .int .i64 5, .int .i64 1, .int .i64 1, .int .i64 9, .int .i64 2] 24)) (.slice (some ⟨w.heap.size, 0, none⟩) 2 2) 2 twoO := by
  refine ⟨_, 2, rfl, by omega, by decide, fun h => by simp at h, fun _ => ⟨_, 0, rfl, fun i hi => ?_⟩⟩
  rcases (show i = 0 ∨ i = 1 by omega) with rfl | rfl
  · exact ⟨by simp [twoO], by simp [twoO], by simp [twoO]⟩
  · exact ⟨by simp [twoO], by simp [twoO], by simp [twoO]⟩
theorem fst_two : IsFst twoO 2 1 := by
  refine ⟨by omega, fun t ht => ?_, fun t ht => ?_⟩
  · rcases (show t = 0 ∨ t = 1 by omega) with rfl | rfl <;> decide
  · obtain rfl : t = 0 := by omega
    decide
theorem far_two : FarIs 0 0 1 2 2 := by
  refine Or.inr ⟨by omega, by omega, by omega, 2, rfl, ?_⟩
  refine ⟨by decide, by decide, fun i hi => ?_⟩
  rcases (show i = 0 ∨ i = 1 by omega) with rfl | rfl <;> decide

set_option maxHeartbeats 4000000 in
set_option maxRecDepth 100000 in
theorem awake14_any (w : World) : Calls Try.prog 8 #[] w fun e w' => e = .returned (.bool true) ∧ Below w.heap.size w w' := by
  have HO : Hid (Ops (w.alloc (.cells #[.int .i64 2, .int .i64 5, .int .i64 1, .int .i64 1, .int .i64 9, .int .i64 2] 24)) (.slice (some ⟨w.heap.size, 0, none⟩) 2 2) 2 twoO) := ops_two w
  have HB0 : Hid (Below w.heap.size w (w.alloc (.cells #[.int .i64 2, .int .i64 5, .int .i64 1, .int .i64 1, .int .i64 9, .int .i64 2] 24))) := below_a1 _ _
  have HC : Hid (∀ w', Below (w.alloc (.cells #[.int .i64 2, .int .i64 5, .int .i64 1, .int .i64 1, .int .i64 9, .int .i64 2] 24)).heap.size (w.alloc (.cells #[.int .i64 2, .int .i64 5, .int .i64 1, .int .i64 1, .int .i64 9, .int .i64 2] 24)) w' → w'.cell? ⟨w.heap.size, 0, none⟩ = some (.int .i64 2) ∧ w'.cell? ⟨w.heap.size, 1, none⟩ = some (.int .i64 5) ∧ w'.cell? ⟨w.heap.size, 2, none⟩ = some (.int .i64 1) ∧ w'.cell? ⟨w.heap.size, 3, none⟩ = some (.int .i64 1) ∧ w'.cell? ⟨w.heap.size, 4, none⟩ = some (.int .i64 9) ∧ w'.cell? ⟨w.heap.size, 5, none⟩ = some (.int .i64 2)) := fun w' hb => ⟨cell_later hb (by simp), cell_later hb (by simp), cell_later hb (by simp), cell_later hb (by simp), cell_later hb (by simp), cell_later hb (by simp)⟩
  go_enter Try.func8, Try.ntmps8
  go_wp2_with fail
  generalize w.alloc (.cells #[.int .i64 2, .int .i64 5, .int .i64 1, .int .i64 1, .int .i64 9, .int .i64 2] 24) = W0 at *
  refine (spone_any _).mono ?_
  rintro e w1 ⟨rfl, hb1⟩
  unfold spV
  go_wp2_with fail
  refine (of14_any 7 2 10 20 1 2 3 true 1 0 9 false 2 2 0 0 0 _ (by decide) (by decide) (by omega)).mono ?_
  rintro e w2 ⟨hb2, ⟨hF, _⟩ | ⟨_, q, hq, rfl⟩⟩
  · exact absurd hF (by decide)
  obtain rfl := hq.unique far_two
  have hb02 : Below W0.heap.size W0 w2 := hb1.trans (hb2.mono hb1.size)
  have HX : Hid (Below W0.heap.size W0 (w2.alloc (.cells #[.int .i64 2, .int .i64 9, .int .i64 7] 24)) ∧ Thr (w2.alloc (.cells #[.int .i64 2, .int .i64 9, .int .i64 7] 24)) w2.heap.size 2 9 7) := ⟨hb02.alloc hb02.size _, Thr.new _ _ _ _ _⟩
  clear hb1 hb2 hb02 hq
  have hE : ∀ w, (binOp .eql 24 (.agg #[.int .i64 2, .int .i64 9, .int .i64 7]) (.agg #[.int .i64 2, .int .i64 9, .int .i64 7])).run Try.prog w = .ok (.bool true) w := fun w => (op_eql 2 9 7 2 9 7 w).trans (by rw [eqO_self])
  go_wp2_with fail
  generalize w2.alloc (.cells #[.int .i64 2, .int .i64 9, .int .i64 7] 24) = W at *
  have MK : Hid (∀ w', Below W.heap.size W w' → (w'.cell? ⟨w.heap.size, 0, none⟩ = some (.int .i64 2) ∧ w'.cell? ⟨w.heap.size, 1, none⟩ = some (.int .i64 5) ∧ w'.cell? ⟨w.heap.size, 2, none⟩ = some (.int .i64 1) ∧ w'.cell? ⟨w.heap.size, 3, none⟩ = some (.int .i64 1) ∧ w'.cell? ⟨w.heap.size, 4, none⟩ = some (.int .i64 9) ∧ w'.cell? ⟨w.heap.size, 5, none⟩ = some (.int .i64 2) ∧ w'.cell? ⟨w2.heap.size, 0, none⟩ = some (.int .i64 2) ∧ w'.cell? ⟨w2.heap.size, 1, none⟩ = some (.int .i64 9) ∧ w'.cell? ⟨w2.heap.size, 2, none⟩ = some (.int .i64 7)) ∧ Below W.heap.size W w') := fun w' hb => by
    have h := HC.out w' (HX.out.1.trans (hb.mono HX.out.1.size))
    have h2 := HX.out.2.later hb
    exact ⟨⟨h.1, h.2.1, h.2.2.1, h.2.2.2.1, h.2.2.2.2.1, h.2.2.2.2.2, h2.1, h2.2.1, h2.2.2⟩, hb⟩
  have HF : Hid (∀ w', Below W.heap.size W w' → Calls Try.prog 16 #[.slice (some ⟨w.heap.size, 0, none⟩) 2 2] w' fun e w'' => e = .returned (.int .i64 1) ∧ Below w'.heap.size w' w'') := fun w' hb => by
    refine (first14_any 2 twoO _ w' (HO.out.later (HX.out.1.trans (hb.mono HX.out.1.size))) (by omega)).mono ?_
    rintro e w'' ⟨r, rfl, ⟨h0, _⟩ | ⟨k, rfl, hk⟩, hb'⟩
    · omega
    · rw [hk.unique fst_two]; exact ⟨rfl, hb'⟩
  have HLs : Hid (ltO (1, 9, 2) (2, 5, 1) = true) := by show _ = _; decide
  go_region_held3 (fun w' => (w'.cell? ⟨w.heap.size, 0, none⟩ = some (.int .i64 2) ∧ w'.cell? ⟨w.heap.size, 1, none⟩ = some (.int .i64 5) ∧ w'.cell? ⟨w.heap.size, 2, none⟩ = some (.int .i64 1) ∧ w'.cell? ⟨w.heap.size, 3, none⟩ = some (.int .i64 1) ∧ w'.cell? ⟨w.heap.size, 4, none⟩ = some (.int .i64 9) ∧ w'.cell? ⟨w.heap.size, 5, none⟩ = some (.int .i64 2) ∧ w'.cell? ⟨w2.heap.size, 0, none⟩ = some (.int .i64 2) ∧ w'.cell? ⟨w2.heap.size, 1, none⟩ = some (.int .i64 9) ∧ w'.cell? ⟨w2.heap.size, 2, none⟩ = some (.int .i64 7)) ∧ Below W.heap.size W w')
    (first | assumption | exact MK.out _ (bstep (by assumption) (sBel (by assumption))) | exact MK.out _ (Below.refl _ _).drew)
    (first | (go_at_call 16; refine (HF.out _ (sBel (by assumption))).mono ?_; rintro e w6 ⟨rfl, hb6⟩) | (go_at_call 11; refine (less14_any 1 9 2 2 5 1 _).mono ?_; rintro e w7 ⟨rfl, hb7⟩; rw [HLs.out]))
  all_goals
    go_wp2
    go_ret
    exact ⟨rfl, (HB0.out.trans (HX.out.1.mono HB0.out.size)).trans ((sBel (by assumption)).mono (HB0.out.trans (HX.out.1.mono HB0.out.size)).size)⟩
end Go.Proofs.Ytcdkocdjbpebpaa
/- Options, and lists of them, that are arguments: what they hold. -/
namespace Go.Proofs.Ytcdkocdjbpebpaa
open Go.ChangeShapes Go.WideShapes Go.RowKit Go.Deep Go.Joins

/-- Each of its numbers is one of 64 bits. -/
def wfO (x : Int × Int × Int) : Prop := (Lit.int .i64 x.1).wf = true ∧ (Lit.int .i64 x.2.1).wf = true ∧ (Lit.int .i64 x.2.2).wf = true
theorem see_field14 {H : Type} {enc : TypeId × Value → H} {P : Program} {w : World} {base n : Nat} {spare : Nat → Bool} {held : Bool} {t : TypeId} {k : IntKind} {c : Value} {y : DataW H × List MemPlace} (ht : P.underlying t = some (.int k))
    (h : DataW.trod enc P w base spare held n t [c] = some y) : ∃ a, c = .int k a ∧ (Lit.int k a).wf = true := by
  obtain ⟨a, e, _, wa⟩ := DataW.trod_int ht h
  simp at e
  exact ⟨a, e, wa⟩
structure OptAt (P : Program) (t : TypeId) (f0 f1 f2 : Field) : Prop where
  hs : P.underlying t = some (.struct #[f0, f1, f2])
  hone : oneCellFields P #[f0, f1, f2] = true
  ce : P.cellsOf t = 3
  u0 : P.underlying f0.type = some (.int .i64)
  u1 : P.underlying f1.type = some (.int .i64)
  u2 : P.underlying f2.type = some (.int .i64)
theorem Try.optAt : ∃ f0 f1 f2, OptAt Try.prog 24 f0 f1 f2 :=
  ⟨_, _, _, Try.underlying24, by kernel_rfl, by kernel_rfl, Try.underlying3, Try.underlying3, Try.underlying3⟩
theorem trod_opt {H : Type} {enc : TypeId × Value → H} {P : Program} {w : World} {base n : Nat} {spare : Nat → Bool} {held : Bool} {t : TypeId} {f0 f1 f2 : Field} {cs : List Value} {y : DataW H × List MemPlace}
    (A : OptAt P t f0 f1 f2) (hlen : cs.length = 3) (h : DataW.trod enc P w base spare held n t cs = some y) : ∃ q : Int × Int × Int, cs = [.int .i64 q.1, .int .i64 q.2.1, .int .i64 q.2.2] ∧ wfO q := by
  obtain ⟨xs, kk, _, _, _, hxl, hfl⟩ := DataW.trod_struct A.hs h
  match xs, hxl, cs, hlen with
  | [y0, y1, y2], _, [v0, v1, v2], _ =>
    have k0 := hfl 0 f0 rfl
    have k1 := hfl 1 f1 rfl
    have k2 := hfl 2 f2 rfl
    obtain ⟨o0, c0⟩ := hone_of A.hone 0 f0 rfl
    obtain ⟨o1, c1⟩ := hone_of A.hone 1 f1 rfl
    obtain ⟨o2, c2⟩ := hone_of A.hone 2 f2 rfl
    simp [o0, c0] at k0
    simp [o1, c1] at k1
    simp [o2, c2] at k2
    obtain ⟨a0, rfl, w0⟩ := see_field14 A.u0 k0
    obtain ⟨a1, rfl, w1⟩ := see_field14 A.u1 k1
    obtain ⟨a2, rfl, w2⟩ := see_field14 A.u2 k2
    exact ⟨(a0, a1, a2), rfl, w0, w1, w2⟩
theorem see_opt {H : Type} {enc : TypeId × Value → H} {P : Program} {w : World} {base b0 : Nat} {spare : Nat → Bool} {held : Bool} {r : Reach} {t : TypeId} {f0 f1 f2 : Field} {v : Value} {d : DataW H} {p : List MemPlace}
    (A : OptAt P t f0 f1 f2) (hv : Value.okWide P w r b0 t v) (h : DataW.Trod enc P w base spare held t v d p) : ∃ a0 a1 a2, v = .agg #[.int .i64 a0, .int .i64 a1, .int .i64 a2] ∧ wfO (a0, a1, a2) := by
  obtain ⟨cs, rfl, hsz⟩ := okWide_struct A.hs hv
  obtain ⟨fuel, hf⟩ := h
  obtain ⟨⟨a0, a1, a2⟩, he, hw⟩ := trod_opt A (by simp [Value.cells]; rw [hsz]; exact A.ce) hf
  refine ⟨a0, a1, a2, ?_, hw⟩
  simp [Value.cells] at he
  obtain ⟨l⟩ := cs
  simp at he
  rw [he]
theorem see_opts {H : Type} {enc : TypeId × Value → H} {P : Program} {w : World} {base b0 : Nat} {held : Bool} {r : Reach} {t e : TypeId} {f0 f1 f2 : Field} {v : Value} {d : DataW H} {p : List MemPlace}
    (ht : P.underlying t = some (.slice e)) (A : OptAt P e f0 f1 f2) (hv : Value.okWide P w r b0 t v) (h : DataW.Trod enc P w base (fun _ => true) held t v d p) : ∃ n f, Ops w v n f ∧ ∀ i, i < n → wfO (f i) := by
  obtain ⟨a, len, cap, rfl⟩ := okWide_slice ht hv
  obtain ⟨fuel, hf⟩ := h
  rcases open_slice ht hf with ⟨hcs, _⟩ | ⟨x, l, c, m, k, D, Pl, hcs, _, hl, hm, hmm, hdp, hx⟩
  · simp [Value.cells] at hcs
    obtain ⟨rfl, rfl, rfl⟩ := hcs
    exact ⟨0, fun _ => (0, 0, 0), ⟨none, 0, rfl, by simp, by simp, fun _ => rfl, fun h => by omega⟩, fun i hi => by omega⟩
  · simp [Value.cells] at hcs
    obtain ⟨rfl, rfl, rfl⟩ := hcs
    simp only [if_true] at hmm
    subst hmm
    have each : ∀ i, i < len → ∃ q : Int × Int × Int, (w.cell? (x.add (i * 3)) = some (.int .i64 q.1) ∧ w.cell? (x.add (i * 3 + 1)) = some (.int .i64 q.2.1) ∧ w.cell? (x.add (i * 3 + 2)) = some (.int .i64 q.2.2)) ∧ wfO q := by
      intro i hi
      obtain ⟨cs', k1, k2⟩ := hx i (by omega)
      rw [A.ce] at k1
      obtain ⟨_, hlen, hcell⟩ := World.cells?_some k1
      obtain ⟨q, rfl, hw⟩ := trod_opt A hlen k2
      have q0 := hcell 0 (by omega)
      have q1 := hcell 1 (by omega)
      have q2 := hcell 2 (by omega)
      rw [add_add] at q0 q1 q2
      exact ⟨q, ⟨by simpa using q0, by simpa using q1, by simpa using q2⟩, hw⟩
    obtain ⟨q, hq⟩ := choose_lt each
    refine ⟨len, q, ⟨some x, m, rfl, hl, hm, fun h => by simp at h, fun hp => ?_⟩, fun i hi => (hq i hi).2⟩
    obtain ⟨b, off, spot⟩ := x
    have hspot : spot = none := by simpa [Addr.add] using World.cell?_spot (hq 0 hp).1.1
    subst hspot
    refine ⟨b, off, rfl, fun i hi => ?_⟩
    obtain ⟨⟨k0, k1, k2⟩, _⟩ := hq i hi
    rw [Go.WideShapes.add_plain] at k0 k1 k2
    exact ⟨k0, by rwa [Nat.add_assoc], by rwa [Nat.add_assoc]⟩
end Go.Proofs.Ytcdkocdjbpebpaa
/- OptionFar: a good outcome makes a job that need not run no more urgent; a mandatory one is none. -/
namespace Go.Proofs.Ytcdkocdjbpebpaa
open Go.RowKit

def OfV14 (N B m k id : Int) (j : Jb) (y : Int × Int × Int) : Prop := (ofB14 j = true → FarIs N B m k y.1 ∧ y.2.1 = j.due ∧ y.2.2 = id) ∧ (ofB14 j = false → y = (0, 0, 0))
theorem OfV14.unique {N B m k id : Int} {j : Jb} {y z : Int × Int × Int} (h : OfV14 N B m k id j y) (h' : OfV14 N B m k id j z) : y = z := by
  cases hz : ofB14 j with
  | false => rw [h.2 hz, h'.2 hz]
  | true =>
    obtain ⟨h1, h2, h3⟩ := h.1 hz
    obtain ⟨g1, g2, g3⟩ := h'.1 hz
    obtain ⟨p, q, t⟩ := y
    obtain ⟨p', q', t'⟩ := z
    simp only at h1 h2 h3 g1 g2 g3
    rw [h1.unique g1, h2, g2, h3, g3]
/-- What Of tells, whatever it tells. -/
def OfW14 (N B m k id : Int) (j : Jb) (w : World) (e : Ending) (w' : World) : Prop := ∃ y : Int × Int × Int, e = .returned (.tuple #[.agg #[.int .i64 y.1, .int .i64 y.2.1, .int .i64 y.2.2], .bool (ofB14 j)]) ∧ OfV14 N B m k id j y ∧ Below w.heap.size w w'
theorem of14_val (id ec et ex em ek ee : Int) (o : Bool) (n r u : Int) (b : Bool) (c d x N B : Int) (w : World) (h1 : IntKind.i64.wrap (c - x) = c - x) (h2 : IntKind.i64.wrap (d - x) = d - x) (b0 : 0 ≤ B) :
    Calls Try.prog 9 #[.int .i64 id, .agg #[.int .i64 ec, .int .i64 et, .int .i64 ex, .int .i64 em, .int .i64 ek, .int .i64 ee], .agg #[.bool o, .int .i64 n, .int .i64 r, .int .i64 u, .bool b, .int .i64 c, .int .i64 d, .int .i64 x], .agg #[.int .i64 N, .int .u64 B]] w (OfW14 N B em ek id ⟨o, n, r, u, b, c, d, x⟩ w) := by
  refine (of14_any id ec et ex em ek ee o n r u b c d x N B w h1 h2 b0).mono ?_
  rintro e w' ⟨hb, ⟨hz, rfl⟩ | ⟨hz, q, hq, rfl⟩⟩
  · exact ⟨(0, 0, 0), by rw [hz], ⟨fun h => (by rw [hz] at h; cases h), fun _ => rfl⟩, hb⟩
  · exact ⟨(q, u, id), by rw [hz], ⟨fun _ => ⟨hq, rfl, rfl⟩, fun h => (by rw [hz] at h; cases h)⟩, hb⟩

theorem maySp_eq14 (s : Sp) : maySp s = decide (1 ≤ s.c ∧ s.c ≤ 6 ∧ s.c ≤ s.t ∧ s.t ≤ s.x ∧ s.x ≤ 48 ∧ (1 ≤ s.m ∧ s.m ≤ s.k ∧ s.k ≤ 6) ∧ 0 ≤ s.e ∧ s.e ≤ 8 ∧ (s.e ≠ 0 ∨ s.t = s.x)) := by
  have e : maySp s = (((((fitC s && fitT s) && fitX s) && fitW s) && fitW s) && fitE s) := by
    show ((((((true && fitC s) && fitT s) && fitX s) && fitW s) && fitW s) && fitE s) = _
    rw [Bool.true_and]
  rw [e]
  unfold fitC fitT fitX fitW fitE wiB leT mayB
  rw [Bool.eq_iff_iff]
  simp only [Bool.and_eq_true, decide_eq_true_eq]
  by_cases h : s.e = 0
  · simp only [h, if_true]; omega
  · simp only [h, if_false]; omega

theorem far_facts {s : Sp} {j : Jb} (h : jmB s j = true) : IntKind.i64.wrap (j.c - j.ran) = j.c - j.ran ∧ IntKind.i64.wrap (j.d - j.ran) = j.d - j.ran ∧ ofB14 j = (j.on && !j.md) ∧ maySp s = true := by
  have hs : maySp s = true := by
    cases hs : maySp s with
    | true => rfl
    | false => unfold jmB at h; rw [hs] at h; cases h
  obtain ⟨o, n, r, u, b, c, d, x⟩ := j
  have hs2 := hs
  rw [maySp_eq14] at hs2
  obtain ⟨f1, f2, f3, f4, f5, _⟩ := of_decide_eq_true hs2
  cases o with
  | false =>
    unfold jmB at h
    rw [hs] at h
    simp [zeB] at h
    obtain ⟨_, hb, hc, hd, hx⟩ := h
    subst hc hd hx
    exact ⟨(by decide : IntKind.i64.wrap ((0 : Int) - 0) = 0 - 0), (by decide : IntKind.i64.wrap ((0 : Int) - 0) = 0 - 0), by simp [ofB14], hs⟩
  | true =>
    have hj : jinB s ⟨true, n, r, u, b, c, d, x⟩ = true := by unfold jmB at h; rw [hs] at h; exact h
    obtain ⟨_, _, h1, h2, h3, h4, h5, h6⟩ := jin_facts hj
    simp only at h1 h2 h3 h4 h5 h6
    refine ⟨(by rw [IntKind.wrap_i64]; omega : IntKind.i64.wrap (c - x) = c - x), (by rw [IntKind.wrap_i64]; omega : IntKind.i64.wrap (d - x) = d - x), ?_, hs⟩
    have hl : lftV ⟨true, n, r, u, b, c, d, x⟩ ≠ 0 := by
      simp only [lftV, h5, h6, and_self, if_true]
      by_cases c1 : d < c
      · rw [if_pos c1]; omega
      · rw [if_neg c1]; omega
    simp [ofB14, hl]
theorem far_le {s : Sp} {N B q q' : Int} (h : FarIs N B s.m s.k q) (h' : FarIs ((true :: ringOf N B).take 60).length (val ((true :: ringOf N B).take 60)) s.m s.k q') (hs : maySp s = true) (_hm : mayR N B = true) : q ≤ q' ∧ 0 ≤ q ∧ q ≤ s.k := by
  have hs2 := hs
  rw [maySp_eq14] at hs2
  obtain ⟨_, _, _, _, _, ⟨m0, mk, k6⟩, _⟩ := of_decide_eq_true hs2
  rcases h with ⟨h1, _⟩ | ⟨_, _, _, p, rfl, hp⟩
  · rw [mayB_mk m0 mk k6] at h1; cases h1
  rcases h' with ⟨h1, _⟩ | ⟨_, _, _, p', rfl, hp'⟩
  · rw [mayB_mk m0 mk k6] at h1; cases h1
  rw [ringOf_val (by simp; omega)] at hp'
  have := far_good (by omega) hp hp'
  have h2 := hp.1
  exact ⟨by omega, by omega, by omega⟩

set_option maxHeartbeats 1000000 in
set_option maxRecDepth 100000 in
theorem law_ofar (id ec et ex em ek ee : Int) (o : Bool) (n r u : Int) (b : Bool) (c d x N B : Int) (w : World) (b0 : 0 ≤ B) :
    Calls Try.prog 7 #[.int .i64 id, .agg #[.int .i64 ec, .int .i64 et, .int .i64 ex, .int .i64 em, .int .i64 ek, .int .i64 ee], .agg #[.bool o, .int .i64 n, .int .i64 r, .int .i64 u, .bool b, .int .i64 c, .int .i64 d, .int .i64 x], .agg #[.int .i64 N, .int .u64 B]] w fun e w' => e = .returned (.bool true) ∧ Below w.heap.size w w' := by
  have hS : Six (((w.alloc (.cells #[.int .i64 ec, .int .i64 et, .int .i64 ex, .int .i64 em, .int .i64 ek, .int .i64 ee] 26)).alloc (.cells #[.bool o, .int .i64 n, .int .i64 r, .int .i64 u, .bool b, .int .i64 c, .int .i64 d, .int .i64 x] 28)).alloc (.cells #[.int .i64 N, .int .u64 B] 31)) w.heap.size (Sp.at ⟨ec, et, ex, em, ek, ee⟩) := (Six.new w ⟨ec, et, ex, em, ek, ee⟩).later (below_a2 _ _ _)
  have hJ : Eit (((w.alloc (.cells #[.int .i64 ec, .int .i64 et, .int .i64 ex, .int .i64 em, .int .i64 ek, .int .i64 ee] 26)).alloc (.cells #[.bool o, .int .i64 n, .int .i64 r, .int .i64 u, .bool b, .int .i64 c, .int .i64 d, .int .i64 x] 28)).alloc (.cells #[.int .i64 N, .int .u64 B] 31)) (w.heap.size + 1) ⟨o, n, r, u, b, c, d, x⟩ := by have := (Eit.new (w.alloc (.cells #[.int .i64 ec, .int .i64 et, .int .i64 ex, .int .i64 em, .int .i64 ek, .int .i64 ee] 26)) ⟨o, n, r, u, b, c, d, x⟩).later (below_a1 _ (.cells #[.int .i64 N, .int .u64 B] 31)); simp only [World.size_alloc] at this; exact this
  have hR0 := (fun X : World => (by simp : (X.alloc (.cells #[.int .i64 N, .int .u64 B] 31)).cell? ⟨X.heap.size, 0, none⟩ = some (.int .i64 N))) ((w.alloc (.cells #[.int .i64 ec, .int .i64 et, .int .i64 ex, .int .i64 em, .int .i64 ek, .int .i64 ee] 26)).alloc (.cells #[.bool o, .int .i64 n, .int .i64 r, .int .i64 u, .bool b, .int .i64 c, .int .i64 d, .int .i64 x] 28))
  have hR1 := (fun X : World => (by simp : (X.alloc (.cells #[.int .i64 N, .int .u64 B] 31)).cell? ⟨X.heap.size, 1, none⟩ = some (.int .u64 B))) ((w.alloc (.cells #[.int .i64 ec, .int .i64 et, .int .i64 ex, .int .i64 em, .int .i64 ek, .int .i64 ee] 26)).alloc (.cells #[.bool o, .int .i64 n, .int .i64 r, .int .i64 u, .bool b, .int .i64 c, .int .i64 d, .int .i64 x] 28))
  simp only [World.size_alloc] at hR0 hR1
  have HE : Hid (Below w.heap.size w (((w.alloc (.cells #[.int .i64 ec, .int .i64 et, .int .i64 ex, .int .i64 em, .int .i64 ek, .int .i64 ee] 26)).alloc (.cells #[.bool o, .int .i64 n, .int .i64 r, .int .i64 u, .bool b, .int .i64 c, .int .i64 d, .int .i64 x] 28)).alloc (.cells #[.int .i64 N, .int .u64 B] 31))) := below_a3 _ _ _ _
  go_enter Try.func7, Try.ntmps7
  go_wp2_with fail
  generalize (((w.alloc (.cells #[.int .i64 ec, .int .i64 et, .int .i64 ex, .int .i64 em, .int .i64 ek, .int .i64 ee] 26)).alloc (.cells #[.bool o, .int .i64 n, .int .i64 r, .int .i64 u, .bool b, .int .i64 c, .int .i64 d, .int .i64 x] 28)).alloc (.cells #[.int .i64 N, .int .u64 B] 31)) = W at *
  have HC : Hid (∀ w', Below W.heap.size W w' → w'.cell? ⟨w.heap.size, 0, none⟩ = some (.int .i64 ec) ∧ w'.cell? ⟨w.heap.size, 1, none⟩ = some (.int .i64 et) ∧ w'.cell? ⟨w.heap.size, 2, none⟩ = some (.int .i64 ex) ∧ w'.cell? ⟨w.heap.size, 3, none⟩ = some (.int .i64 em) ∧ w'.cell? ⟨w.heap.size, 4, none⟩ = some (.int .i64 ek) ∧ w'.cell? ⟨w.heap.size, 5, none⟩ = some (.int .i64 ee) ∧ w'.cell? ⟨w.heap.size + 1, 0, none⟩ = some (.bool o) ∧ w'.cell? ⟨w.heap.size + 1, 1, none⟩ = some (.int .i64 n) ∧ w'.cell? ⟨w.heap.size + 1, 2, none⟩ = some (.int .i64 r) ∧ w'.cell? ⟨w.heap.size + 1, 3, none⟩ = some (.int .i64 u) ∧ w'.cell? ⟨w.heap.size + 1, 4, none⟩ = some (.bool b) ∧ w'.cell? ⟨w.heap.size + 1, 5, none⟩ = some (.int .i64 c) ∧ w'.cell? ⟨w.heap.size + 1, 6, none⟩ = some (.int .i64 d) ∧ w'.cell? ⟨w.heap.size + 1, 7, none⟩ = some (.int .i64 x) ∧ w'.cell? ⟨w.heap.size + 2, 0, none⟩ = some (.int .i64 N) ∧ w'.cell? ⟨w.heap.size + 2, 1, none⟩ = some (.int .u64 B)) := by
    intro w' hb
    obtain ⟨s0, s1, s2, s3, s4, s5, _⟩ := (hS.later hb).sp
    obtain ⟨j0, j1, j2, j3, j4, j5, j6, j7, _⟩ := (hJ.later hb).op
    exact ⟨s0, s1, s2, s3, s4, s5, j0, j1, j2, j3, j4, j5, j6, j7, cell_later hb hR0, cell_later hb hR1⟩
  clear hS hJ hR0 hR1
  refine (awake14_any _).mono ?_
  rintro e w1 ⟨rfl, hb1⟩
  have HB1 : Hid (Below W.heap.size W w1) := hb1
  clear hb1
  obtain ⟨s0, s1, s2, s3, s4, s5, j0, j1, j2, j3, j4, j5, j6, j7, r0, r1⟩ := HC.out _ (HB1.out)
  obtain ⟨p1, hp1⟩ : ∃ p1, jmB ⟨ec, et, ex, em, ek, ee⟩ ⟨o, n, r, u, b, c, d, x⟩ = p1 := ⟨_, rfl⟩
  have HJ : Hid (jmB ⟨ec, et, ex, em, ek, ee⟩ ⟨o, n, r, u, b, c, d, x⟩ = p1) := hp1
  clear hp1
  go_wp2_with fail
  refine (jmay_any ec et ex em ek ee o n r u b c d x _).mono ?_
  rintro e w2 ⟨rfl, hb⟩
  rw [HJ.out]
  have HB2 : Hid (Below W.heap.size W w2) := HB1.out.trans (hb.mono HB1.out.size)
  clear hb s0 s1 s2 s3 s4 s5 j0 j1 j2 j3 j4 j5 j6 j7 r0 r1
  obtain ⟨s0, s1, s2, s3, s4, s5, j0, j1, j2, j3, j4, j5, j6, j7, r0, r1⟩ := HC.out _ (HB2.out)
  cases p1 with
  | false =>
    go_wp2; go_ret; exact ⟨rfl, HE.out.trans (HB2.out.mono HE.out.size)⟩
  | true =>
    obtain ⟨p2, hp2⟩ : ∃ p2, mayR N B = p2 := ⟨_, rfl⟩
    have HM : Hid (mayR N B = p2) := hp2
    clear hp2
    go_wp2_with fail
    refine (rmay_any N B _).mono ?_
    rintro e w3 ⟨rfl, hb⟩
    rw [HM.out]
    have HB3 : Hid (Below W.heap.size W w3) := HB2.out.trans (hb.mono HB2.out.size)
    clear hb s0 s1 s2 s3 s4 s5 j0 j1 j2 j3 j4 j5 j6 j7 r0 r1
    obtain ⟨s0, s1, s2, s3, s4, s5, j0, j1, j2, j3, j4, j5, j6, j7, r0, r1⟩ := HC.out _ (HB3.out)
    cases p2 with
    | false =>
      go_wp2; go_ret; exact ⟨rfl, HE.out.trans (HB3.out.mono HE.out.size)⟩
    | true =>
      have HF := far_facts HJ.out
      have h1 : IntKind.i64.wrap (c - x) = c - x := HF.1
      have h2 : IntKind.i64.wrap (d - x) = d - x := HF.2.1
      have HZ : Hid (ofB14 ⟨o, n, r, u, b, c, d, x⟩ = (o && !b) ∧ maySp ⟨ec, et, ex, em, ek, ee⟩ = true) := HF.2.2
      have HW : Hid (IntKind.i64.wrap (c - x) = c - x ∧ IntKind.i64.wrap (d - x) = d - x) := ⟨h1, h2⟩
      clear h1 h2 HF
      go_wp2_with fail
      refine (of14_val id ec et ex em ek ee o n r u b c d x N B _ HW.out.1 HW.out.2 b0).mono ?_
      rintro e w4 ⟨⟨y0, y1, y2⟩, rfl, hv, hb⟩
      rw [HZ.out.1]
      have HV : Hid (OfV14 N B em ek id ⟨o, n, r, u, b, c, d, x⟩ (y0, y1, y2)) := hv
      have HB4 : Hid (Below W.heap.size W (w4.alloc (.cells #[.int .i64 y0, .int .i64 y1, .int .i64 y2] 24))) := (HB3.out.trans (hb.mono HB3.out.size)).alloc (HB3.out.trans (hb.mono HB3.out.size)).size _
      have HT4 : Hid (Thr (w4.alloc (.cells #[.int .i64 y0, .int .i64 y1, .int .i64 y2] 24)) w4.heap.size y0 y1 y2) := Thr.new _ _ _ _ _
      clear hb hv s0 s1 s2 s3 s4 s5 j0 j1 j2 j3 j4 j5 j6 j7 r0 r1
      obtain ⟨zs, hzs⟩ : ∃ zs, (true :: ringOf N B).take 60 = zs := ⟨_, rfl⟩
      have HZS : Hid ((true :: ringOf N B).take 60 = zs) := hzs
      clear hzs
      go_upto_region 5 with fail
      generalize w4.alloc (.cells #[.int .i64 y0, .int .i64 y1, .int .i64 y2] 24) = W2 at *
      go_cut [12, 13] from 38 to 45 (fun s12 s13 wc => ∃ (p : Nat) (z : Int × Int × Int), s12 = .pointer (some ⟨p, 0, none⟩) ∧ s13 = .bool (o && !b) ∧ OfV14 zs.length (val zs) em ek id ⟨o, n, r, u, b, c, d, x⟩ z ∧ Thr wc p z.1 z.2.1 z.2.2 ∧ Below W2.heap.size W2 wc)
      case first =>
        have HS : Hid (∀ w', Below W2.heap.size W2 w' → w'.cell? ⟨w.heap.size, 0, none⟩ = some (.int .i64 ec) ∧ w'.cell? ⟨w.heap.size, 1, none⟩ = some (.int .i64 et) ∧ w'.cell? ⟨w.heap.size, 2, none⟩ = some (.int .i64 ex) ∧ w'.cell? ⟨w.heap.size, 3, none⟩ = some (.int .i64 em) ∧ w'.cell? ⟨w.heap.size, 4, none⟩ = some (.int .i64 ek) ∧ w'.cell? ⟨w.heap.size, 5, none⟩ = some (.int .i64 ee) ∧ w'.cell? ⟨w.heap.size + 1, 0, none⟩ = some (.bool o) ∧ w'.cell? ⟨w.heap.size + 1, 1, none⟩ = some (.int .i64 n) ∧ w'.cell? ⟨w.heap.size + 1, 2, none⟩ = some (.int .i64 r) ∧ w'.cell? ⟨w.heap.size + 1, 3, none⟩ = some (.int .i64 u) ∧ w'.cell? ⟨w.heap.size + 1, 4, none⟩ = some (.bool b) ∧ w'.cell? ⟨w.heap.size + 1, 5, none⟩ = some (.int .i64 c) ∧ w'.cell? ⟨w.heap.size + 1, 6, none⟩ = some (.int .i64 d) ∧ w'.cell? ⟨w.heap.size + 1, 7, none⟩ = some (.int .i64 x) ∧ w'.cell? ⟨w.heap.size + 2, 0, none⟩ = some (.int .i64 N) ∧ w'.cell? ⟨w.heap.size + 2, 1, none⟩ = some (.int .u64 B)) := fun w' hb => HC.out w' (HB4.out.trans (hb.mono HB4.out.size))
        have HO2 : Hid (∀ w', Calls Try.prog 9 #[.int .i64 id, .agg #[.int .i64 ec, .int .i64 et, .int .i64 ex, .int .i64 em, .int .i64 ek, .int .i64 ee], .agg #[.bool o, .int .i64 n, .int .i64 r, .int .i64 u, .bool b, .int .i64 c, .int .i64 d, .int .i64 x], .agg #[.int .i64 zs.length, .int .u64 (val zs)]] w' fun e w'' => ∃ y : Int × Int × Int, e = .returned (.tuple #[.agg #[.int .i64 y.1, .int .i64 y.2.1, .int .i64 y.2.2], .bool (o && !b)]) ∧ OfV14 zs.length (val zs) em ek id ⟨o, n, r, u, b, c, d, x⟩ y ∧ Below w'.heap.size w' w'') := fun w' => by
          have := of14_val id ec et ex em ek ee o n r u b c d x zs.length (val zs) w' HW.out.1 HW.out.2 (by omega)
          rw [← HZ.out.1]
          exact this
        refine wp_region_held_drew (S := fun w' : World => w'.cell? ⟨w.heap.size, 0, none⟩ = some (.int .i64 ec) ∧ w'.cell? ⟨w.heap.size, 1, none⟩ = some (.int .i64 et) ∧ w'.cell? ⟨w.heap.size, 2, none⟩ = some (.int .i64 ex) ∧ w'.cell? ⟨w.heap.size, 3, none⟩ = some (.int .i64 em) ∧ w'.cell? ⟨w.heap.size, 4, none⟩ = some (.int .i64 ek) ∧ w'.cell? ⟨w.heap.size, 5, none⟩ = some (.int .i64 ee) ∧ w'.cell? ⟨w.heap.size + 1, 0, none⟩ = some (.bool o) ∧ w'.cell? ⟨w.heap.size + 1, 1, none⟩ = some (.int .i64 n) ∧ w'.cell? ⟨w.heap.size + 1, 2, none⟩ = some (.int .i64 r) ∧ w'.cell? ⟨w.heap.size + 1, 3, none⟩ = some (.int .i64 u) ∧ w'.cell? ⟨w.heap.size + 1, 4, none⟩ = some (.bool b) ∧ w'.cell? ⟨w.heap.size + 1, 5, none⟩ = some (.int .i64 c) ∧ w'.cell? ⟨w.heap.size + 1, 6, none⟩ = some (.int .i64 d) ∧ w'.cell? ⟨w.heap.size + 1, 7, none⟩ = some (.int .i64 x) ∧ w'.cell? ⟨w.heap.size + 2, 0, none⟩ = some (.int .i64 N) ∧ w'.cell? ⟨w.heap.size + 2, 1, none⟩ = some (.int .u64 B)) (by kernel_rfl) ?_ (fun hHeld => ?_)
        · exact HS.out _ (Below.refl _ _).drew
        have HBy0 : Hid (Below W2.heap.size W2 W2.drew) := (Below.refl _ _).drew
        generalize W2.drew = y0 at *
        refine wpAnyH_take (i := 0) (oi := { dst := some 38, op := Op.move (Operand.tmp 0), type := 3, pos := _, after := _, guard := none }) (v := ?_) rfl (by kernel_rfl) (by kernel_rfl) (by kernel_rfl) (fun _ _ _ h => h) (Or.inl ⟨by rfl, ?_⟩) (by assumption) ?_
        rotate_left
        · intro wS hSw; (try dsimp only at hSw); go_simp; first | done | with_reducible rfl
        try simp only [Act.put, List.setIfInBounds_toArray, List.set_cons_zero, List.set_cons_succ]
        refine wpAnyH_take (i := 1) (oi := { dst := some 39, op := Op.load 26 (Operand.tmp 5), type := 26, pos := _, after := _, guard := none }) (v := ?_) rfl (by kernel_rfl) (by kernel_rfl) (by kernel_rfl) (fun _ _ _ h => h) (Or.inl ⟨by rfl, ?_⟩) (by assumption) ?_
        rotate_left
        · intro wS hSw; (try dsimp only at hSw); go_simp; first | done | with_reducible rfl
        try simp only [Act.put, List.setIfInBounds_toArray, List.set_cons_zero, List.set_cons_succ]
        refine wpAnyH_take (i := 2) (oi := { dst := some 40, op := Op.load 28 (Operand.tmp 6), type := 28, pos := _, after := _, guard := none }) (v := ?_) rfl (by kernel_rfl) (by kernel_rfl) (by kernel_rfl) (fun _ _ _ h => h) (Or.inl ⟨by rfl, ?_⟩) (by assumption) ?_
        rotate_left
        · intro wS hSw; (try dsimp only at hSw); go_simp; first | done | with_reducible rfl
        try simp only [Act.put, List.setIfInBounds_toArray, List.set_cons_zero, List.set_cons_succ]
        refine wpAnyH_take (i := 3) (oi := { dst := some 41, op := Op.load 31 (Operand.tmp 7), type := 31, pos := _, after := _, guard := none }) (v := ?_) rfl (by kernel_rfl) (by kernel_rfl) (by kernel_rfl) (fun _ _ _ h => h) (Or.inl ⟨by rfl, ?_⟩) (by assumption) ?_
        rotate_left
        · intro wS hSw; (try dsimp only at hSw); go_simp; first | done | with_reducible rfl
        try simp only [Act.put, List.setIfInBounds_toArray, List.set_cons_zero, List.set_cons_succ]
        refine wpAnyH_ready (rs := [4, 9]) (by kernel_rfl) (by simp) ?_
        refine AllReadyH.cons (o := { dst := some 42, op := Op.call { callee := Callee.value (Operand.func 20), args := #[Operand.tmp 41, Operand.const (Value.bool true)], argTypes := #[31, 4] }, type := 31, pos := _, after := _, guard := none }) rfl (fun K hK => ?_) (AllReadyH.cons (o := { dst := some 12, op := Op.alloc 24, type := 0, pos := _, after := _, guard := none }) rfl (fun K hK => ?_) AllReadyH.nil)
        · go_simp
          refine (put_any N B true _ b0).mono ?_
          rintro e y1 ⟨rfl, hb⟩
          rw [HZS.out]
          unfold ringV
          have HBy1 : Hid (Below W2.heap.size W2 y1) := HBy0.out.trans (hb.mono HBy0.out.size)
          clear hb
          go_wp2_with fail
          refine hK.out _ _ ?_ (fun hHeld => ?_)
          · exact HS.out _ HBy1.out
          clear hK K
          try simp only [Act.put, List.setIfInBounds_toArray, List.set_cons_zero, List.set_cons_succ]
          refine wpAnyH_ready (rs := [5, 9]) (by kernel_rfl) (by simp) ?_
          refine AllReadyH.cons (o := { dst := some 43, op := Op.call { callee := Callee.value (Operand.func 9), args := #[Operand.tmp 38, Operand.tmp 39, Operand.tmp 40, Operand.tmp 42], argTypes := #[3, 26, 28, 31] }, type := 33, pos := _, after := _, guard := none }) rfl (fun K hK => ?_) (AllReadyH.cons (o := { dst := some 12, op := Op.alloc 24, type := 0, pos := _, after := _, guard := none }) rfl (fun K hK => ?_) AllReadyH.nil)
          · go_simp
            refine (HO2.out _).mono ?_
            rintro e y2 ⟨⟨x0', x1', x2'⟩, rfl, hv2, hb⟩
            have HV2 : Hid (OfV14 zs.length (val zs) em ek id ⟨o, n, r, u, b, c, d, x⟩ (x0', x1', x2')) := hv2
            clear hv2
            have HBy2 : Hid (Below W2.heap.size W2 y2) := HBy1.out.trans (hb.mono HBy1.out.size)
            clear hb
            go_wp2_with fail
            refine hK.out _ _ ?_ (fun hHeld => ?_)
            · exact HS.out _ HBy2.out
            clear hK K
            try simp only [Act.put, List.setIfInBounds_toArray, List.set_cons_zero, List.set_cons_succ]
            refine wpAnyH_take (i := 6) (oi := { dst := some 37, op := Op.move (Operand.tmp 43), type := 33, pos := _, after := _, guard := none }) (v := ?_) rfl (by kernel_rfl) (by kernel_rfl) (by kernel_rfl) (fun _ _ _ h => h) (Or.inl ⟨by rfl, ?_⟩) (by assumption) ?_
            rotate_left
            · intro wS hSw; (try dsimp only at hSw); go_simp; first | done | with_reducible rfl
            try simp only [Act.put, List.setIfInBounds_toArray, List.set_cons_zero, List.set_cons_succ]
            refine wpAnyH_take (i := 7) (oi := { dst := some 44, op := Op.extract (Operand.tmp 37) 0, type := 24, pos := _, after := _, guard := none }) (v := ?_) rfl (by kernel_rfl) (by kernel_rfl) (by kernel_rfl) (fun _ _ _ h => h) (Or.inl ⟨by rfl, ?_⟩) (by assumption) ?_
            rotate_left
            · intro wS hSw; (try dsimp only at hSw); go_simp; first | done | with_reducible rfl
            try simp only [Act.put, List.setIfInBounds_toArray, List.set_cons_zero, List.set_cons_succ]
            refine wpAnyH_take (i := 8) (oi := { dst := some 45, op := Op.extract (Operand.tmp 37) 1, type := 4, pos := _, after := _, guard := none }) (v := ?_) rfl (by kernel_rfl) (by kernel_rfl) (by kernel_rfl) (fun _ _ _ h => h) (Or.inl ⟨by rfl, ?_⟩) (by assumption) ?_
            rotate_left
            · intro wS hSw; (try dsimp only at hSw); go_simp; first | done | with_reducible rfl
            try simp only [Act.put, List.setIfInBounds_toArray, List.set_cons_zero, List.set_cons_succ]
            refine wpAnyH_ready (rs := [9]) (by kernel_rfl) (by simp) ?_
            refine AllReadyH.cons (o := { dst := some 12, op := Op.alloc 24, type := 0, pos := _, after := _, guard := none }) rfl (fun K hK => ?_) AllReadyH.nil
            go_simp
            obtain ⟨y3, ey3⟩ : ∃ y, y2.alloc (.cells #[.int .i64 0, .int .i64 0, .int .i64 0] 24) = y := ⟨_, rfl⟩
            rw [ey3]
            have LOW : Hid (W2.heap.size ≤ y2.heap.size) := HBy2.out.size
            have HBy3 : Hid (Below W2.heap.size W2 y3) := ey3 ▸ HBy2.out.alloc HBy2.out.size _
            have HTy3 : Hid (Tre y3 y2.heap.size 0 0 0) := ey3 ▸ Tre.newO _ 0 0 0
            clear ey3
            refine hK.out _ _ ?_ (fun hHeld => ?_)
            · exact HS.out _ HBy3.out
            clear hK K
            try simp only [Act.put, List.setIfInBounds_toArray, List.set_cons_zero, List.set_cons_succ]
            refine wpAnyH_ready (rs := [10]) (by kernel_rfl) (by simp) ?_
            refine AllReadyH.cons (o := { dst := none, op := Op.store 24 (Operand.tmp 12) (Operand.tmp 44), type := 0, pos := _, after := _, guard := none }) rfl (fun K hK => ?_) AllReadyH.nil
            obtain ⟨⟨z0, z1, z2⟩, t0, t1, t2⟩ := HTy3.out.tri
            go_simp
            obtain ⟨y4, ey4⟩ : ∃ y, ((y3.setCell ⟨y2.heap.size, 0, none⟩ (.int .i64 x0')).setCell ⟨y2.heap.size, 1, none⟩ (.int .i64 x1')).setCell ⟨y2.heap.size, 2, none⟩ (.int .i64 x2') = y := ⟨_, rfl⟩
            rw [ey4]
            have HTy4 : Hid (Tre y4 y2.heap.size x0' x1' x2') := ey4 ▸ HTy3.out.put x0' x1' x2'
            have HBy4 : Hid (Below W2.heap.size W2 y4) := ey4 ▸ below_put3 HBy3.out LOW.out _ _ _
            clear z0 z1 z2 t0 t1 t2 ey4
            refine hK.out _ _ ?_ (fun hHeld => ?_)
            · exact HS.out _ HBy4.out
            clear hK K
            try simp only [Act.put, List.setIfInBounds_toArray, List.set_cons_zero, List.set_cons_succ]
            refine wpAnyH_take (i := 11) (oi := { dst := some 13, op := Op.assign (Operand.tmp 45), type := 4, pos := _, after := _, guard := none }) (v := ?_) rfl (by kernel_rfl) (by kernel_rfl) (by kernel_rfl) (fun _ _ _ h => h) (Or.inl ⟨by rfl, ?_⟩) (by assumption) ?_
            rotate_left
            · intro wS hSw; (try dsimp only at hSw); go_simp; first | done | with_reducible rfl
            try simp only [Act.put, List.setIfInBounds_toArray, List.set_cons_zero, List.set_cons_succ]
            refine wpAnyH_done (by kernel_rfl) ?_ _
            go_wp2_with fail
            go_meet
            case rel => exact ⟨_, (x0', x1', x2'), rfl, rfl, HV2.out, HTy4.out.1, HBy4.out⟩
          · go_simp
            obtain ⟨y5, ey5⟩ : ∃ y, y1.alloc (.cells #[.int .i64 0, .int .i64 0, .int .i64 0] 24) = y := ⟨_, rfl⟩
            rw [ey5]
            have LOW : Hid (W2.heap.size ≤ y1.heap.size) := HBy1.out.size
            have HBy5 : Hid (Below W2.heap.size W2 y5) := ey5 ▸ HBy1.out.alloc HBy1.out.size _
            have HTy5 : Hid (Tre y5 y1.heap.size 0 0 0) := ey5 ▸ Tre.newO _ 0 0 0
            clear ey5
            refine hK.out _ _ ?_ (fun hHeld => ?_)
            · exact HS.out _ HBy5.out
            clear hK K
            try simp only [Act.put, List.setIfInBounds_toArray, List.set_cons_zero, List.set_cons_succ]
            refine wpAnyH_ready (rs := [5]) (by kernel_rfl) (by simp) ?_
            refine AllReadyH.cons (o := { dst := some 43, op := Op.call { callee := Callee.value (Operand.func 9), args := #[Operand.tmp 38, Operand.tmp 39, Operand.tmp 40, Operand.tmp 42], argTypes := #[3, 26, 28, 31] }, type := 33, pos := _, after := _, guard := none }) rfl (fun K hK => ?_) AllReadyH.nil
            go_simp
            refine (HO2.out _).mono ?_
            rintro e y6 ⟨⟨x0', x1', x2'⟩, rfl, hv2, hb⟩
            have HV2 : Hid (OfV14 zs.length (val zs) em ek id ⟨o, n, r, u, b, c, d, x⟩ (x0', x1', x2')) := hv2
            clear hv2
            have HBy6 : Hid (Below W2.heap.size W2 y6) := HBy5.out.trans (hb.mono HBy5.out.size)
            have HTy6 : Hid (Tre y6 y1.heap.size 0 0 0) := HTy5.out.later hb
            clear hb
            go_wp2_with fail
            refine hK.out _ _ ?_ (fun hHeld => ?_)
            · exact HS.out _ HBy6.out
            clear hK K
            try simp only [Act.put, List.setIfInBounds_toArray, List.set_cons_zero, List.set_cons_succ]
            refine wpAnyH_take (i := 6) (oi := { dst := some 37, op := Op.move (Operand.tmp 43), type := 33, pos := _, after := _, guard := none }) (v := ?_) rfl (by kernel_rfl) (by kernel_rfl) (by kernel_rfl) (fun _ _ _ h => h) (Or.inl ⟨by rfl, ?_⟩) (by assumption) ?_
            rotate_left
            · intro wS hSw; (try dsimp only at hSw); go_simp; first | done | with_reducible rfl
            try simp only [Act.put, List.setIfInBounds_toArray, List.set_cons_zero, List.set_cons_succ]
            refine wpAnyH_take (i := 7) (oi := { dst := some 44, op := Op.extract (Operand.tmp 37) 0, type := 24, pos := _, after := _, guard := none }) (v := ?_) rfl (by kernel_rfl) (by kernel_rfl) (by kernel_rfl) (fun _ _ _ h => h) (Or.inl ⟨by rfl, ?_⟩) (by assumption) ?_
            rotate_left
            · intro wS hSw; (try dsimp only at hSw); go_simp; first | done | with_reducible rfl
            try simp only [Act.put, List.setIfInBounds_toArray, List.set_cons_zero, List.set_cons_succ]
            refine wpAnyH_take (i := 8) (oi := { dst := some 45, op := Op.extract (Operand.tmp 37) 1, type := 4, pos := _, after := _, guard := none }) (v := ?_) rfl (by kernel_rfl) (by kernel_rfl) (by kernel_rfl) (fun _ _ _ h => h) (Or.inl ⟨by rfl, ?_⟩) (by assumption) ?_
            rotate_left
            · intro wS hSw; (try dsimp only at hSw); go_simp; first | done | with_reducible rfl
            try simp only [Act.put, List.setIfInBounds_toArray, List.set_cons_zero, List.set_cons_succ]
            refine wpAnyH_ready (rs := [10]) (by kernel_rfl) (by simp) ?_
            refine AllReadyH.cons (o := { dst := none, op := Op.store 24 (Operand.tmp 12) (Operand.tmp 44), type := 0, pos := _, after := _, guard := none }) rfl (fun K hK => ?_) AllReadyH.nil
            obtain ⟨⟨z0, z1, z2⟩, t0, t1, t2⟩ := HTy6.out.tri
            go_simp
            obtain ⟨y7, ey7⟩ : ∃ y, ((y6.setCell ⟨y1.heap.size, 0, none⟩ (.int .i64 x0')).setCell ⟨y1.heap.size, 1, none⟩ (.int .i64 x1')).setCell ⟨y1.heap.size, 2, none⟩ (.int .i64 x2') = y := ⟨_, rfl⟩
            rw [ey7]
            have HTy7 : Hid (Tre y7 y1.heap.size x0' x1' x2') := ey7 ▸ HTy6.out.put x0' x1' x2'
            have HBy7 : Hid (Below W2.heap.size W2 y7) := ey7 ▸ below_put3 HBy6.out LOW.out _ _ _
            clear z0 z1 z2 t0 t1 t2 ey7
            refine hK.out _ _ ?_ (fun hHeld => ?_)
            · exact HS.out _ HBy7.out
            clear hK K
            try simp only [Act.put, List.setIfInBounds_toArray, List.set_cons_zero, List.set_cons_succ]
            refine wpAnyH_take (i := 11) (oi := { dst := some 13, op := Op.assign (Operand.tmp 45), type := 4, pos := _, after := _, guard := none }) (v := ?_) rfl (by kernel_rfl) (by kernel_rfl) (by kernel_rfl) (fun _ _ _ h => h) (Or.inl ⟨by rfl, ?_⟩) (by assumption) ?_
            rotate_left
            · intro wS hSw; (try dsimp only at hSw); go_simp; first | done | with_reducible rfl
            try simp only [Act.put, List.setIfInBounds_toArray, List.set_cons_zero, List.set_cons_succ]
            refine wpAnyH_done (by kernel_rfl) ?_ _
            go_wp2_with fail
            go_meet
            case rel => exact ⟨_, (x0', x1', x2'), rfl, rfl, HV2.out, HTy7.out.1, HBy7.out⟩
        · go_simp
          obtain ⟨y8, ey8⟩ : ∃ y, y0.alloc (.cells #[.int .i64 0, .int .i64 0, .int .i64 0] 24) = y := ⟨_, rfl⟩
          rw [ey8]
          have LOW : Hid (W2.heap.size ≤ y0.heap.size) := HBy0.out.size
          have HBy8 : Hid (Below W2.heap.size W2 y8) := ey8 ▸ HBy0.out.alloc HBy0.out.size _
          have HTy8 : Hid (Tre y8 y0.heap.size 0 0 0) := ey8 ▸ Tre.newO _ 0 0 0
          clear ey8
          refine hK.out _ _ ?_ (fun hHeld => ?_)
          · exact HS.out _ HBy8.out
          clear hK K
          try simp only [Act.put, List.setIfInBounds_toArray, List.set_cons_zero, List.set_cons_succ]
          refine wpAnyH_ready (rs := [4]) (by kernel_rfl) (by simp) ?_
          refine AllReadyH.cons (o := { dst := some 42, op := Op.call { callee := Callee.value (Operand.func 20), args := #[Operand.tmp 41, Operand.const (Value.bool true)], argTypes := #[31, 4] }, type := 31, pos := _, after := _, guard := none }) rfl (fun K hK => ?_) AllReadyH.nil
          go_simp
          refine (put_any N B true _ b0).mono ?_
          rintro e y9 ⟨rfl, hb⟩
          rw [HZS.out]
          unfold ringV
          have HBy9 : Hid (Below W2.heap.size W2 y9) := HBy8.out.trans (hb.mono HBy8.out.size)
          have HTy9 : Hid (Tre y9 y0.heap.size 0 0 0) := HTy8.out.later hb
          clear hb
          go_wp2_with fail
          refine hK.out _ _ ?_ (fun hHeld => ?_)
          · exact HS.out _ HBy9.out
          clear hK K
          try simp only [Act.put, List.setIfInBounds_toArray, List.set_cons_zero, List.set_cons_succ]
          refine wpAnyH_ready (rs := [5]) (by kernel_rfl) (by simp) ?_
          refine AllReadyH.cons (o := { dst := some 43, op := Op.call { callee := Callee.value (Operand.func 9), args := #[Operand.tmp 38, Operand.tmp 39, Operand.tmp 40, Operand.tmp 42], argTypes := #[3, 26, 28, 31] }, type := 33, pos := _, after := _, guard := none }) rfl (fun K hK => ?_) AllReadyH.nil
          go_simp
          refine (HO2.out _).mono ?_
          rintro e y10 ⟨⟨x0', x1', x2'⟩, rfl, hv2, hb⟩
          have HV2 : Hid (OfV14 zs.length (val zs) em ek id ⟨o, n, r, u, b, c, d, x⟩ (x0', x1', x2')) := hv2
          clear hv2
          have HBy10 : Hid (Below W2.heap.size W2 y10) := HBy9.out.trans (hb.mono HBy9.out.size)
          have HTy10 : Hid (Tre y10 y0.heap.size 0 0 0) := HTy9.out.later hb
          clear hb
          go_wp2_with fail
          refine hK.out _ _ ?_ (fun hHeld => ?_)
          · exact HS.out _ HBy10.out
          clear hK K
          try simp only [Act.put, List.setIfInBounds_toArray, List.set_cons_zero, List.set_cons_succ]
          refine wpAnyH_take (i := 6) (oi := { dst := some 37, op := Op.move (Operand.tmp 43), type := 33, pos := _, after := _, guard := none }) (v := ?_) rfl (by kernel_rfl) (by kernel_rfl) (by kernel_rfl) (fun _ _ _ h => h) (Or.inl ⟨by rfl, ?_⟩) (by assumption) ?_
          rotate_left
          · intro wS hSw; (try dsimp only at hSw); go_simp; first | done | with_reducible rfl
          try simp only [Act.put, List.setIfInBounds_toArray, List.set_cons_zero, List.set_cons_succ]
          refine wpAnyH_take (i := 7) (oi := { dst := some 44, op := Op.extract (Operand.tmp 37) 0, type := 24, pos := _, after := _, guard := none }) (v := ?_) rfl (by kernel_rfl) (by kernel_rfl) (by kernel_rfl) (fun _ _ _ h => h) (Or.inl ⟨by rfl, ?_⟩) (by assumption) ?_
          rotate_left
          · intro wS hSw; (try dsimp only at hSw); go_simp; first | done | with_reducible rfl
          try simp only [Act.put, List.setIfInBounds_toArray, List.set_cons_zero, List.set_cons_succ]
          refine wpAnyH_take (i := 8) (oi := { dst := some 45, op := Op.extract (Operand.tmp 37) 1, type := 4, pos := _, after := _, guard := none }) (v := ?_) rfl (by kernel_rfl) (by kernel_rfl) (by kernel_rfl) (fun _ _ _ h => h) (Or.inl ⟨by rfl, ?_⟩) (by assumption) ?_
          rotate_left
          · intro wS hSw; (try dsimp only at hSw); go_simp; first | done | with_reducible rfl
          try simp only [Act.put, List.setIfInBounds_toArray, List.set_cons_zero, List.set_cons_succ]
          refine wpAnyH_ready (rs := [10]) (by kernel_rfl) (by simp) ?_
          refine AllReadyH.cons (o := { dst := none, op := Op.store 24 (Operand.tmp 12) (Operand.tmp 44), type := 0, pos := _, after := _, guard := none }) rfl (fun K hK => ?_) AllReadyH.nil
          obtain ⟨⟨z0, z1, z2⟩, t0, t1, t2⟩ := HTy10.out.tri
          go_simp
          obtain ⟨y11, ey11⟩ : ∃ y, ((y10.setCell ⟨y0.heap.size, 0, none⟩ (.int .i64 x0')).setCell ⟨y0.heap.size, 1, none⟩ (.int .i64 x1')).setCell ⟨y0.heap.size, 2, none⟩ (.int .i64 x2') = y := ⟨_, rfl⟩
          rw [ey11]
          have HTy11 : Hid (Tre y11 y0.heap.size x0' x1' x2') := ey11 ▸ HTy10.out.put x0' x1' x2'
          have HBy11 : Hid (Below W2.heap.size W2 y11) := ey11 ▸ below_put3 HBy10.out LOW.out _ _ _
          clear z0 z1 z2 t0 t1 t2 ey11
          refine hK.out _ _ ?_ (fun hHeld => ?_)
          · exact HS.out _ HBy11.out
          clear hK K
          try simp only [Act.put, List.setIfInBounds_toArray, List.set_cons_zero, List.set_cons_succ]
          refine wpAnyH_take (i := 11) (oi := { dst := some 13, op := Op.assign (Operand.tmp 45), type := 4, pos := _, after := _, guard := none }) (v := ?_) rfl (by kernel_rfl) (by kernel_rfl) (by kernel_rfl) (fun _ _ _ h => h) (Or.inl ⟨by rfl, ?_⟩) (by assumption) ?_
          rotate_left
          · intro wS hSw; (try dsimp only at hSw); go_simp; first | done | with_reducible rfl
          try simp only [Act.put, List.setIfInBounds_toArray, List.set_cons_zero, List.set_cons_succ]
          refine wpAnyH_done (by kernel_rfl) ?_ _
          go_wp2_with fail
          go_meet
          case rel => exact ⟨_, (x0', x1', x2'), rfl, rfl, HV2.out, HTy11.out.1, HBy11.out⟩
      case rest =>
        obtain ⟨p, ⟨z0, z1, z2⟩, rfl, rfl, hv2, ht2, hb2⟩ := hcut
        have HV2 : Hid (OfV14 zs.length (val zs) em ek id ⟨o, n, r, u, b, c, d, x⟩ (z0, z1, z2)) := hv2
        have HB5 : Hid (Below W.heap.size W wc) := HB4.out.trans (hb2.mono HB4.out.size)
        have s6 := ht2.lt
        obtain ⟨e0, e1, e2⟩ := ht2
        have ht4 := HT4.out.later hb2
        have s7 := ht4.lt
        obtain ⟨d0, d1, d2⟩ := ht4
        clear hv2 hb2
        obtain ⟨s0, s1, s2, s3, s4, s5, j0, j1, j2, j3, j4, j5, j6, j7, r0, r1⟩ := HC.out _ (HB5.out)
        have HQ := HV.out.1
        have HQ2 := HV2.out.1
        rw [HZ.out.1] at HQ HQ2
        cases o with
        | false =>
          go_wp2; go_ret; exact ⟨rfl, HE.out.trans (HB5.out.mono HE.out.size)⟩
        | true =>
          cases b with
          | true =>
            go_wp2; go_ret; exact ⟨rfl, HE.out.trans (HB5.out.mono HE.out.size)⟩
          | false =>
            obtain ⟨hf1, hu1, hi1⟩ := HQ rfl
            obtain ⟨hf2, hu2, hi2⟩ := HQ2 rfl
            rw [← HZS.out] at hf2
            have hle := far_le hf1 hf2 HZ.out.2 HM.out
            simp only at hu1 hi1 hu2 hi2 hle
            clear HQ HQ2 hf1 hf2
            obtain ⟨g1, g2, g3⟩ := hle
            subst hu1 hi1 hu2
            go_wp2; go_ret; exact ⟨rfl, HE.out.trans (HB5.out.mono HE.out.size)⟩
end Go.Proofs.Ytcdkocdjbpebpaa
/- A map by options whose elements count: what it holds, key by key; count. -/
namespace Go.Proofs.Ytcdkocdjbpebpaa
open Go.RowKit Go.Maps Go.WideMaps
open Go.ChangeMaps (setBlock)

theorem laidOut14 : laidOutB Try.prog = true := by kernel_rfl
theorem lawO : KeyLaw Try.prog 24 := deep_law_laid laidOut14 (m := 2) (by omega) (of_decide_eq_true (by kernel_rfl)) (by kernel_rfl) (by kernel_rfl)
theorem keysO : Keyed Try.prog 24 := Keyed.of_law lawO
theorem keyO : Try.prog.keyType 24 = true := by kernel_rfl
theorem typesPos14 : 0 < Try.prog.types.size := of_decide_eq_true (by kernel_rfl)

def kV (x : Int × Int × Int) : Value := .agg #[.int .i64 x.1, .int .i64 x.2.1, .int .i64 x.2.2]
def kL (x : Int × Int × Int) : Lit := .string (keyBytes [.int .i64 x.1, .int .i64 x.2.1, .int .i64 x.2.2])
theorem kL_is {x : Int × Int × Int} (h : wfO x) : keyOf Try.prog 24 (kV x) = some (kL x) := by
  obtain ⟨n, hn⟩ : ∃ n, Try.prog.types.size + 1 = n + 2 := ⟨Try.prog.types.size - 1, by have := typesPos14; omega⟩
  obtain ⟨h1, h2, h3⟩ := h
  have hc : Try.prog.cellsOf 24 = 3 := by kernel_rfl
  have hc1 : Try.prog.cellsOf 3 = 1 := by kernel_rfl
  unfold keyOf
  rw [Try.underlying24]
  simp only
  have hf : (kV x).formed Try.prog 24 = true := by
    unfold kV
    simp [Value.formed, Try.underlying24, hc]
  rw [keyO, hf, hn]
  unfold kV kL
  simp [Program.keyLits, Try.underlying24, Try.underlying3, hc, hc1, Value.cells, h1, h2, h3]
theorem kV_inj {x y : Int × Int × Int} (h : kV x = kV y) : x = y := by
  obtain ⟨a, b, c⟩ := x
  obtain ⟨d, e, f⟩ := y
  unfold kV at h
  simp at h
  simp [h]
theorem kL_ne {x y : Int × Int × Int} (hx : wfO x) (hy : wfO y) (h : x ≠ y) : kL x ≠ kL y := fun e => h (kV_inj (lawO.inj (kL_is hx) (by rw [e]; exact kL_is hy)))
theorem kL_key {x : Int × Int × Int} (h : wfO x) : WideAt.IsKeyLit (kL x) := keysO.key (kL_is h)
theorem keyLits_int {n : Nat} {c : Value} {ls : List Lit} (h : Try.prog.keyLits (n + 1) 3 [c] = some ls) : ∃ a, c = .int .i64 a ∧ (Lit.int .i64 a).wf = true := by
  cases c with
  | int q a =>
    simp only [Program.keyLits, Try.underlying3] at h
    split at h
    · next hc => exact ⟨a, by rw [hc.1], hc.2⟩
    · cases h
  | _ => simp [Program.keyLits, Try.underlying3] at h
set_option maxRecDepth 100000 in
theorem kV_of {key : Value} {kl : Lit} (h : keyOf Try.prog 24 key = some kl) : ∃ x, key = kV x ∧ wfO x := by
  obtain ⟨n, m, hn, hm⟩ : ∃ n m, Try.prog.types.size + 1 = m + 1 ∧ m = n + 1 := ⟨Try.prog.types.size - 1, Try.prog.types.size, rfl, by have := typesPos14; omega⟩
  have hc : Try.prog.cellsOf 24 = 3 := by kernel_rfl
  have hc1 : Try.prog.cellsOf 3 = 1 := by kernel_rfl
  unfold keyOf at h
  rw [Try.underlying24] at h
  simp only at h
  split at h
  rotate_left
  · cases h
  next hcond =>
  rw [Bool.and_eq_true] at hcond
  have hf := hcond.2
  cases key with
  | agg cs =>
    simp [Value.formed, Try.underlying24, hc] at hf
    obtain ⟨l⟩ := cs
    match l, hf with
    | [c0, c1, c2], _ =>
      rw [hn] at h
      obtain ⟨ls, hls, _⟩ := Option.map_eq_some_iff.1 h
      simp only [Program.keyLits, Try.underlying24] at hls
      simp [Value.cells, hc, hc1] at hls
      rw [hm] at hls
      cases h0 : Try.prog.keyLits (n + 1) 3 [c0] with
      | none => simp [h0] at hls
      | some q0 =>
      cases h1 : Try.prog.keyLits (n + 1) 3 [c1] with
      | none => simp [h0, h1] at hls
      | some q1 =>
      cases h2 : Try.prog.keyLits (n + 1) 3 [c2] with
      | none => simp [h0, h1, h2] at hls
      | some q2 =>
      obtain ⟨a0, rfl, w0⟩ := keyLits_int h0
      obtain ⟨a1, rfl, w1⟩ := keyLits_int h1
      obtain ⟨a2, rfl, w2⟩ := keyLits_int h2
      exact ⟨(a0, a1, a2), rfl, w0, w1, w2⟩
  | _ => simp [Value.formed, Try.underlying24] at hf

/-- How a number reads. -/
def encC : Value → Option (DataW Unit × List MemPlace)
  | .int .i64 q => some (.lit (.int .i64 q), [])
  | _ => none
theorem encC_is {v : Value} {y : DataW Unit × List MemPlace} (h : encC v = some y) : ∃ q, v = .int .i64 q ∧ y = (.lit (.int .i64 q), []) := by
  unfold encC at h
  split at h
  · cases h; exact ⟨_, rfl, rfl⟩
  · cases h
def dC (n : Nat) : DataW Unit := .lit (.int .i64 n)
/-- What the map holds: how many of each. -/
structure HoldC (D : DataW Unit) (C : Int × Int × Int → Nat) : Prop where
  at_ : ∀ x, wfO x → D.atKey (kL x) (dC 0) = dC (C x)
  keys : ∀ kl, Maps.has D kl = true → ∃ x, wfO x ∧ kl = kL x ∧ 0 < C x
  pos : ∀ x, wfO x → 0 < C x → Maps.has D (kL x) = true
theorem holdC_none : HoldC (.map []) (fun _ => 0) := ⟨fun _ _ => rfl, fun kl hk => by simp [Maps.has] at hk, fun _ _ h => by omega⟩
def putC (C : Int × Int × Int → Nat) (k : Int × Int × Int) (n : Nat) (x : Int × Int × Int) : Nat := if x = k then n else C x
theorem HoldC.putAt {D : DataW Unit} {C : Int × Int × Int → Nat} (h : HoldC D C) (hD : IsMap D) {k : Int × Int × Int} (hk : wfO k) (n : Nat) : ∀ x, wfO x → (D.put (kL k) (dC n)).atKey (kL x) (dC 0) = dC (putC C k n x) := fun x hx => by
  unfold putC
  by_cases c : x = k
  · rw [if_pos c, c]; exact atKey_put_same hD (kL_key hk) _ _
  · rw [if_neg c, atKey_put_other (kL_ne hx hk c)]; exact h.at_ x hx
theorem HoldC.put {D : DataW Unit} {C : Int × Int × Int → Nat} (h : HoldC D C) (hD : IsMap D) {k : Int × Int × Int} (hk : wfO k) (n : Nat) (hn : 0 < n) : HoldC (D.put (kL k) (dC n)) (putC C k n) := by
  refine ⟨h.putAt hD hk n, fun kl hkl => ?_, fun x hx hp => ?_⟩
  · by_cases c : kl = kL k
    · exact ⟨k, hk, c, by unfold putC; rw [if_pos rfl]; exact hn⟩
    · rw [has_put_other c] at hkl
      obtain ⟨x, hx, he, hp⟩ := h.keys kl hkl
      exact ⟨x, hx, he, by unfold putC; split <;> omega⟩
  · by_cases c : x = k
    · rw [c]; exact has_put_same hD (kL_key hk) _
    · rw [has_put_other (kL_ne hx hk c)]
      unfold putC at hp
      rw [if_neg c] at hp
      exact h.pos x hx hp
theorem HoldC.congr {D : DataW Unit} {C C' : Int × Int × Int → Nat} (h : HoldC D C) (e : ∀ x, C x = C' x) : HoldC D C' := by
  have : C = C' := funext e
  rw [← this]; exact h
theorem zeroC (w : World) : (zeroValue 3).run Try.prog w = .ok (.int .i64 0) w := by kernel_rfl
theorem lookC {w : World} {b n : Nat} {D : DataW Unit} {C : Int × Int × Int → Nat} (h : w.ownsMap Try.prog 24 encC b n D) (hat : ∀ x, wfO x → D.atKey (kL x) (dC 0) = dC (C x)) {k : Int × Int × Int} (hk : wfO k) :
    (Instr.lookup 52 (.map (some b)) (kV k) false).run Try.prog w = .ok (.int .i64 (C k)) w := by
  obtain ⟨v, ps, hrun, hR⟩ := h.lookup keysO Try.underlying52 (zeroC w) (show encC (.int .i64 0) = some (dC 0, []) from rfl) (kL_is hk)
  rw [hat k hk] at hR
  obtain ⟨q, rfl, e⟩ := encC_is hR
  unfold dC at e
  simp at e
  rw [hrun, e.1]

/-- That an entry is read is as if what is there were written. -/
theorem entry_upd14 {w : World} {b : Nat} {es : Array MapEntry} {clock : Nat} (hb : w.heap[b]? = some (.map es clock)) (F : WideElems.Fit Try.prog 24 encC es clock) {k : Int × Int × Int} (hk : wfO k) :
    ∃ (v0 : Value) (st : Nat) (w1 : World), (Instr.mapEntry 52 (.map (some b)) (kV k)).run Try.prog w = .ok (.tuple #[v0, goInt st]) w1 ∧ (Instr.mapUpdate 52 (.map (some b)) (kV k) v0).run Try.prog w = .ok () w1 := by
  have ht := Try.underlying52
  rcases lawO.find w (kL_is hk) es.toList F.keys with ⟨h1, h2⟩ | ⟨j, e0, h1, h2, h3⟩
  · refine ⟨.int .i64 0, clock, setBlock w b (.map (es.push ⟨kV k, .int .i64 0, clock⟩) (clock + 1)), ?_, ?_⟩
    · simp [Instr.mapEntry, run_underlying ht, MapKept.run_getObj_map hb, lawO.check w false (kL_is hk), h1, MapKept.run_setObj_map _ hb, Result.andThen, setBlock]
    · simp [Instr.mapUpdate, run_underlying ht, MapKept.run_getObj_map hb, lawO.check w false (kL_is hk), h1, MapKept.run_setObj_map _ hb, Result.andThen, setBlock]
  · have hj : es[j]? = some e0 := by simpa using h2
    have hsame : es.modify j (fun e => { e with key := kV k }) = es := by
      apply Array.ext'
      rw [Array.toList_modify, Go.ChangeMaps.modify_eq_set _ _ _ _ h2]
      have : ({ e0 with key := kV k } : MapEntry) = e0 := by rw [← h3]
      rw [this]
      exact Go.WideElems.set_self _ _ _ h2
    have hsame2 : es.modify j (fun e => { e with key := kV k, val := e0.val }) = es := by
      apply Array.ext'
      rw [Array.toList_modify, Go.ChangeMaps.modify_eq_set _ _ _ _ h2]
      have : ({ e0 with key := kV k, val := e0.val } : MapEntry) = e0 := by rw [← h3]
      rw [this]
      exact Go.WideElems.set_self _ _ _ h2
    refine ⟨e0.val, e0.born, setBlock w b (.map es clock), ?_, ?_⟩
    · simp [Instr.mapEntry, run_underlying ht, MapKept.run_getObj_map hb, lawO.check w false (kL_is hk), h1, hj, h3, lawO.stays w (kL_is hk), hsame, MapKept.run_setObj_map _ hb, Result.andThen, setBlock]
    · simp [Instr.mapUpdate, run_underlying ht, MapKept.run_getObj_map hb, lawO.check w false (kL_is hk), h1, hj, h3, lawO.stays w (kL_is hk), hsame2, MapKept.run_setObj_map _ hb, Result.andThen, setBlock]
theorem nodup_key14 : ∀ {l : List MapEntry}, (l.map (·.key)).Nodup → ∀ {a b : MapEntry}, a ∈ l → b ∈ l → a.key = b.key → a = b
  | [], _, _, _, ha, _, _ => by simp at ha
  | x :: r, h, a, b, ha, hb, e => by
    simp only [List.map_cons, List.nodup_cons] at h
    rcases List.mem_cons.1 ha with e1 | ha <;> rcases List.mem_cons.1 hb with e2 | hb
    · rw [e1, e2]
    · exact absurd (List.mem_map.2 ⟨b, hb, by rw [← e, e1]⟩) h.1
    · exact absurd (List.mem_map.2 ⟨a, ha, by rw [e, e2]⟩) h.1
    · exact nodup_key14 h.2 ha hb e
/-- An entry is read; what is there may be read again; then it is written. -/
theorem entryC {w : World} {b n : Nat} {D : DataW Unit} {C : Int × Int × Int → Nat} (h : w.ownsMap Try.prog 24 encC b n D) (hH : HoldC D C) {k : Int × Int × Int} (hk : wfO k) (hn : n < maxLen) :
    ∃ (st : Nat) (w1 w3 : World), (Instr.mapEntry 52 (.map (some b)) (kV k)).run Try.prog w = .ok (.tuple #[.int .i64 (C k), goInt st]) w1 ∧ w.grownBy w1 (some b) ∧
      (Instr.lookup 52 (.map (some b)) (kV k) false).run Try.prog w1 = .ok (.int .i64 (C k)) w1 ∧
      (Instr.entryStore 52 (.map (some b)) (goInt st) (.int .i64 ((C k : Int) + 1))).run Try.prog w1 = .ok () w3 ∧ w1.grownBy w3 (some b) ∧ w3.ownsMap Try.prog 24 encC b (n + 1) (D.put (kL k) (dC (C k + 1))) := by
  have h0 := h
  have hlook := lookC h hH.at_ hk
  obtain ⟨es, clock, hb, F, hs, rfl⟩ := h
  obtain ⟨v0, st, es1, clock1, hrun, hwho, hback⟩ := WideElems.entry_then_store lawO Try.underlying52 (fun u => zeroC u) hb F (kL_is hk)
  have hv0 : v0 = .int .i64 (C k) := by
    rcases Maps.fit_look false keysO Try.underlying52 (zeroC w) hb F (kL_is hk) with ⟨hr, hno, _⟩ | ⟨e0, y, hm, hkk, hr, _⟩
    · rcases hwho with ⟨e1, hm1, hk1, _⟩ | ⟨_, rfl⟩
      · exact absurd hk1 (hno e1 hm1)
      · rw [hlook] at hr
        simp at hr ⊢
        omega
    · rcases hwho with ⟨e1, hm1, hk1, rfl⟩ | ⟨hno, _⟩
      · have : e1 = e0 := by
          obtain ⟨_, _, s3⟩ := F.stamped
          exact nodup_key14 s3 hm1 hm (hk1.trans hkk.symm)
        rw [this]
        rw [hlook] at hr
        simp at hr
        exact hr.symm
      · exact absurd hkk (hno e0 hm)
  subst hv0
  obtain ⟨v1, st1, w1, hrun1, hup1⟩ := entry_upd14 hb F hk
  rw [hrun] at hrun1
  simp at hrun1
  obtain ⟨⟨rfl, _⟩, hw1⟩ := hrun1
  obtain ⟨w1', hr1', hown1, _⟩ := h0.update keysO Try.underlying52 hn (kL_is hk) (show encC (.int .i64 (C k)) = some (dC (C k), []) from rfl)
  rw [hup1] at hr1'
  simp at hr1'
  subst hr1'
  have hl1 := lookC hown1 (hH.putAt h0.isMap hk (C k)) hk
  rw [show putC C k (C k) k = C k from if_pos rfl] at hl1
  obtain ⟨es', clock', hst, hup⟩ := hback (setBlock w b (.map es1 clock1)) (.int .i64 ((C k : Int) + 1)) (ChangeMaps.heap_setBlock_same hb _)
  obtain ⟨w', hrun', hown', _⟩ := h0.update keysO Try.underlying52 hn (kL_is hk) (show encC (.int .i64 ((C k : Int) + 1)) = some (dC (C k + 1), []) from by unfold dC; simp [encC])
  rw [hup] at hrun'
  simp at hrun'
  subst hrun'
  refine ⟨st, _, _, hrun, ⟨rfl, rfl, rfl, by simp [setBlock], fun i _ hi => ChangeMaps.heap_setBlock_other hb _ (fun e => hi (by rw [e]))⟩, by rw [hw1]; exact hl1, hst, ⟨rfl, rfl, rfl, by simp [setBlock], fun i _ hi => ChangeMaps.heap_setBlock_other (ChangeMaps.heap_setBlock_same hb _) _ (fun e => hi (by rw [e]))⟩, ?_⟩
  obtain ⟨es2, clock2, hb2, F2, hs2, hD2⟩ := hown'
  rw [ChangeMaps.heap_setBlock_same hb] at hb2
  simp at hb2
  obtain ⟨rfl, rfl⟩ := hb2
  exact ⟨_, _, ChangeMaps.heap_setBlock_same (ChangeMaps.heap_setBlock_same hb _) _, F2, hs2, hD2⟩

/-- How many of the first j are x. -/
def cntO (f : Nat → Int × Int × Int) : Nat → Int × Int × Int → Nat
  | 0, _ => 0
  | j + 1, x => cntO f j x + if f j = x then 1 else 0
theorem cntO_le (f : Nat → Int × Int × Int) (x : Int × Int × Int) : ∀ j, cntO f j x ≤ j
  | 0 => Nat.le_refl _
  | j + 1 => by have := cntO_le f x j; unfold cntO; split <;> omega
def MapC (w : World) (b : Nat) (C : Int × Int × Int → Nat) : Prop := ∃ D m, w.ownsMap Try.prog 24 encC b m D ∧ HoldC D C
end Go.Proofs.Ytcdkocdjbpebpaa
/- Walks of package option: count. -/
namespace Go.Proofs.Ytcdkocdjbpebpaa
open Go.RowKit Go.Maps Go.WideMaps

theorem MapC.kept {w w' : World} {b : Nat} {C : Int × Int × Int → Nat} {row : Option Nat} (h : MapC w b C) (hg : w.grownBy w' row) (hne : some b ≠ row) : MapC w' b C := by
  obtain ⟨D, m, ho, hh⟩ := h
  exact ⟨D, m, ho.kept hg hne, hh⟩
theorem grown_below14 {w w' : World} (hb : Below w.heap.size w w') : w.grownBy w' none := ⟨hb.os, hb.tape, hb.output, hb.size, fun k hk _ => hb.block k hk⟩
theorem MapC.later {w w' : World} {b : Nat} {C : Int × Int × Int → Nat} (h : MapC w b C) (hb : Below w.heap.size w w') : MapC w' b C := h.kept (grown_below14 hb) (by simp)

set_option maxHeartbeats 2000000 in
set_option maxRecDepth 100000 in
theorem count14_any (n : Nat) (f : Nat → Int × Int × Int) (v : Value) (w : World) (h : Ops w v n f) (hf : ∀ i, i < n → wfO (f i)) (hn : n ≤ 1000) :
    Calls Try.prog 27 #[v] w fun e w' => e = .returned (.map (some w.heap.size)) ∧ MapC w' w.heap.size (cntO f n) ∧ Below w.heap.size w w' := by
  have hmm := @run_makeMap Try.prog
  obtain ⟨ad, cap, rfl, h1, h2, h0, h3⟩ := h
  go_enter Try.func27, Try.ntmps27
  go_wp2_with fail
  go_loopw [9] (fun i wr => ∃ j : Nat, j ≤ n ∧ i = .int .i64 j ∧ Hid (∃ D, wr.ownsMap Try.prog 24 encC w.heap.size j D ∧ HoldC D (cntO f j)) ∧ Below w.heap.size w wr) (fun i _ => ((n : Int) - intOf i).toNat)
  case atStart => exact ⟨0, by omega, rfl, ⟨.map [], World.ownsMap_made _ _ _ _, holdC_none⟩, (Below.refl _ _).alloc (Nat.le_refl _) _⟩
  case round =>
    obtain ⟨j, hj, rfl, HM, hbw⟩ := hrel
    clear hmm
    by_cases hlt : j < n
    · have hlt' : (j : Int) < n := by omega
      obtain ⟨bk, o, rfl, h4⟩ := h3 (by omega)
      obtain ⟨k0, k1, k2⟩ := h4 j (by omega)
      have e0 := cell_later hbw k0
      have e1 := cell_later hbw k1
      have e2 := cell_later hbw k2
      clear h4 h3 k0 k1 k2
      have hwf := hf j hlt
      obtain ⟨x, hx⟩ : ∃ x, f j = x := ⟨_, rfl⟩
      rw [hx] at e0 e1 e2 hwf
      have HXF : Hid (f j = x) := hx
      clear hx
      obtain ⟨fa, fb, fc⟩ := x
      have HW : Hid (wfO (fa, fb, fc)) := hwf
      simp only at e0 e1 e2
      obtain ⟨D, hown, hH⟩ := HM.out
      have hbox : Below w.heap.size w (wr.alloc (.cells #[.int .i64 fa, .int .i64 fb, .int .i64 fc] 24)) := hbw.alloc hbw.size _
      have HT : Hid (Thr (wr.alloc (.cells #[.int .i64 fa, .int .i64 fb, .int .i64 fc] 24)) wr.heap.size fa fb fc) := Thr.new wr fa fb fc 24
      have hownX : (wr.alloc (.cells #[.int .i64 fa, .int .i64 fb, .int .i64 fc] 24)).drew.ownsMap Try.prog 24 encC w.heap.size j D := (hown.alloc _).kept (grown_below14 (Below.refl _ _).drew) (by simp)
      have hlk := lookC hownX hH.at_ HW.out
      obtain ⟨st, w1, w3, hent, hg1, hl1, hsto, hg3, hown3⟩ := entryC hownX hH HW.out (by unfold maxLen; omega)
      have HSX : Hid ((wr.alloc (.cells #[.int .i64 fa, .int .i64 fb, .int .i64 fc] 24)).drew.cell? ⟨wr.heap.size, 0, none⟩ = some (.int .i64 fa) ∧ (wr.alloc (.cells #[.int .i64 fa, .int .i64 fb, .int .i64 fc] 24)).drew.cell? ⟨wr.heap.size, 1, none⟩ = some (.int .i64 fb) ∧ (wr.alloc (.cells #[.int .i64 fa, .int .i64 fb, .int .i64 fc] 24)).drew.cell? ⟨wr.heap.size, 2, none⟩ = some (.int .i64 fc)) := ⟨HT.out.1, HT.out.2.1, HT.out.2.2⟩
      have hsz : wr.heap.size < (wr.alloc (.cells #[.int .i64 fa, .int .i64 fb, .int .i64 fc] 24)).drew.heap.size := by show _ < (wr.alloc (.cells #[.int .i64 fa, .int .i64 fb, .int .i64 fc] 24)).heap.size; simp
      have hne : wr.heap.size ≠ w.heap.size := by have := hown.lt; omega
      have HS1 : Hid (w1.cell? ⟨wr.heap.size, 0, none⟩ = some (.int .i64 fa) ∧ w1.cell? ⟨wr.heap.size, 1, none⟩ = some (.int .i64 fb) ∧ w1.cell? ⟨wr.heap.size, 2, none⟩ = some (.int .i64 fc)) := by
        have hb := hg1.block wr.heap.size hsz (by simpa using hne)
        exact ⟨(World.cell?_of_block (a := ⟨wr.heap.size, 0, none⟩) hb).trans HSX.out.1, (World.cell?_of_block (a := ⟨wr.heap.size, 1, none⟩) hb).trans HSX.out.2.1, (World.cell?_of_block (a := ⟨wr.heap.size, 2, none⟩) hb).trans HSX.out.2.2⟩
      have HS3 : Hid (w3.cell? ⟨wr.heap.size, 0, none⟩ = some (.int .i64 fa) ∧ w3.cell? ⟨wr.heap.size, 1, none⟩ = some (.int .i64 fb) ∧ w3.cell? ⟨wr.heap.size, 2, none⟩ = some (.int .i64 fc)) := by
        have hb := hg3.block wr.heap.size (Nat.lt_of_lt_of_le hsz hg1.size) (by simpa using hne)
        exact ⟨(World.cell?_of_block (a := ⟨wr.heap.size, 0, none⟩) hb).trans HS1.out.1, (World.cell?_of_block (a := ⟨wr.heap.size, 1, none⟩) hb).trans HS1.out.2.1, (World.cell?_of_block (a := ⟨wr.heap.size, 2, none⟩) hb).trans HS1.out.2.2⟩
      have hbX : Below w.heap.size w (wr.alloc (.cells #[.int .i64 fa, .int .i64 fb, .int .i64 fc] 24)).drew := hbox.drew
      have hb1 : Below w.heap.size w w1 := hbX.grown hg1 hbX.size (fun k hk => by cases hk; exact Nat.le_refl _)
      have hb3 : Below w.heap.size w w3 := hb1.grown hg3 hb1.size (fun k hk => by cases hk; exact Nat.le_refl _)
      have HE : Hid ((∃ D, w3.ownsMap Try.prog 24 encC w.heap.size (j + 1) D ∧ HoldC D (cntO f (j + 1))) ∧ Below w.heap.size w w3) :=
        ⟨⟨_, hown3, (hH.put hownX.isMap HW.out _ (by omega)).congr (fun x => by
          unfold putC
          conv => rhs; unfold cntO
          rw [HXF.out]
          by_cases c : x = (fa, fb, fc)
          · rw [if_pos c, if_pos c.symm, c]
          · rw [if_neg c, if_neg (fun e => c e.symm)]; rfl)⟩, hb3⟩
      obtain ⟨q, hq⟩ : ∃ q, cntO f j (fa, fb, fc) = q := ⟨_, rfl⟩
      have hq1 : q ≤ j := hq ▸ cntO_le f _ j
      rw [hq] at hlk hent hl1 hsto
      have hwq : IntKind.i64.wrap ((q : Int) + 1) = (q : Int) + 1 := by rw [IntKind.wrap_i64]; omega
      have hLX := hlk
      have hL1 := hl1
      unfold kV at hent hLX hL1
      unfold goInt at hsto
      clear hown3 hg1 hg3 hH hown hownX hbX hb1 hb3 hlk hl1 hbox hwf hq hsz
      go_wp2_with fail
      refine wp_region_held_drew (S := (fun w' : World => w'.cell? ⟨wr.heap.size, 0, none⟩ = some (.int .i64 fa) ∧ w'.cell? ⟨wr.heap.size, 1, none⟩ = some (.int .i64 fb) ∧ w'.cell? ⟨wr.heap.size, 2, none⟩ = some (.int .i64 fc))) (by kernel_rfl) ?_ (fun hHeld => ?_)
      · exact HSX.out
      generalize (wr.alloc (.cells #[.int .i64 fa, .int .i64 fb, .int .i64 fc] 24)).drew = X at *
      refine wpAnyH_take (i := 0) (oi := { dst := some 13, op := Op.move (Operand.tmp 3), type := 52, pos := _, after := _, guard := none }) (v := ?_) rfl (by kernel_rfl) (by kernel_rfl) (by kernel_rfl) (fun _ _ _ h => h) (Or.inl ⟨by rfl, ?_⟩) (by assumption) ?_
      rotate_left
      · intro wS hSw; (try dsimp only at hSw); go_simp; first | done | with_reducible rfl
      try simp only [Act.put, List.setIfInBounds_toArray, List.set_cons_zero, List.set_cons_succ]
      refine wpAnyH_take (i := 1) (oi := { dst := some 14, op := Op.load 24 (Operand.tmp 5), type := 24, pos := _, after := _, guard := none }) (v := ?_) rfl (by kernel_rfl) (by kernel_rfl) (by kernel_rfl) (fun _ _ _ h => h) (Or.inl ⟨by rfl, ?_⟩) (by assumption) ?_
      rotate_left
      · intro wS hSw; (try dsimp only at hSw); go_simp; first | done | with_reducible rfl
      try simp only [Act.put, List.setIfInBounds_toArray, List.set_cons_zero, List.set_cons_succ]
      refine wpAnyH_ready (rs := [2, 4]) (by kernel_rfl) (by simp) ?_
      refine AllReadyH.cons (o := { dst := some 15, op := Op.lookup 52 (Operand.tmp 13) (Operand.tmp 14) false, type := 3, pos := _, after := _, guard := none }) rfl (fun K hK => ?_) (AllReadyH.cons (o := { dst := some 17, op := Op.mapEntry 52 (Operand.tmp 13) (Operand.tmp 14), type := 0, pos := _, after := _, guard := none }) rfl (fun K hK => ?_) AllReadyH.nil)
      · go_simp
        refine hK.out _ _ ?_ (fun hHeld => ?_)
        · exact HSX.out
        clear hK K
        try simp only [Act.put, List.setIfInBounds_toArray, List.set_cons_zero, List.set_cons_succ]
        refine wpAnyH_take (i := 3) (oi := { dst := some 16, op := Op.binOp BinOp.add 3 (Operand.tmp 15) (Operand.const (Value.int IntKind.i64 1)) 3, type := 3, pos := _, after := _, guard := none }) (v := ?_) rfl (by kernel_rfl) (by kernel_rfl) (by kernel_rfl) (fun _ _ _ h => h) (Or.inl ⟨by rfl, ?_⟩) (by assumption) ?_
        rotate_left
        · intro wS hSw; (try dsimp only at hSw); go_simp; first | done | with_reducible rfl
        try simp only [Act.put, List.setIfInBounds_toArray, List.set_cons_zero, List.set_cons_succ]
        refine wpAnyH_ready (rs := [4]) (by kernel_rfl) (by simp) ?_
        refine AllReadyH.cons (o := { dst := some 17, op := Op.mapEntry 52 (Operand.tmp 13) (Operand.tmp 14), type := 0, pos := _, after := _, guard := none }) rfl (fun K hK => ?_) AllReadyH.nil
        go_simp
        refine hK.out _ _ ?_ (fun hHeld => ?_)
        · exact HS1.out
        clear hK K
        try simp only [Act.put, List.setIfInBounds_toArray, List.set_cons_zero, List.set_cons_succ]
        refine wpAnyH_take (i := 5) (oi := { dst := some 18, op := Op.extract (Operand.tmp 17) 1, type := 3, pos := _, after := _, guard := none }) (v := ?_) rfl (by kernel_rfl) (by kernel_rfl) (by kernel_rfl) (fun _ _ _ h => h) (Or.inl ⟨by rfl, ?_⟩) (by assumption) ?_
        rotate_left
        · intro wS hSw; (try dsimp only at hSw); go_simp; first | done | with_reducible rfl
        try simp only [Act.put, List.setIfInBounds_toArray, List.set_cons_zero, List.set_cons_succ]
        refine wpAnyH_ready (rs := [6]) (by kernel_rfl) (by simp) ?_
        refine AllReadyH.cons (o := { dst := none, op := Op.entryStore 52 (Operand.tmp 13) (Operand.tmp 18) (Operand.tmp 16), type := 0, pos := _, after := _, guard := none }) rfl (fun K hK => ?_) AllReadyH.nil
        go_simp
        refine hK.out _ _ ?_ (fun hHeld => ?_)
        · exact HS3.out
        clear hK K
        try simp only [Act.put, List.setIfInBounds_toArray, List.set_cons_zero, List.set_cons_succ]
        refine wpAnyH_done (by kernel_rfl) ?_ _
        go_wp2_with fail
        go_roundw
        case rel => exact ⟨j + 1, by omega, by first | rfl | go_num, HE.out.1, HE.out.2⟩
        case measure => simp [intOf]; omega
      · go_simp
        refine hK.out _ _ ?_ (fun hHeld => ?_)
        · exact HS1.out
        clear hK K
        try simp only [Act.put, List.setIfInBounds_toArray, List.set_cons_zero, List.set_cons_succ]
        refine wpAnyH_take (i := 5) (oi := { dst := some 18, op := Op.extract (Operand.tmp 17) 1, type := 3, pos := _, after := _, guard := none }) (v := ?_) rfl (by kernel_rfl) (by kernel_rfl) (by kernel_rfl) (fun _ _ _ h => h) (Or.inl ⟨by rfl, ?_⟩) (by assumption) ?_
        rotate_left
        · intro wS hSw; (try dsimp only at hSw); go_simp; first | done | with_reducible rfl
        try simp only [Act.put, List.setIfInBounds_toArray, List.set_cons_zero, List.set_cons_succ]
        refine wpAnyH_ready (rs := [2]) (by kernel_rfl) (by simp) ?_
        refine AllReadyH.cons (o := { dst := some 15, op := Op.lookup 52 (Operand.tmp 13) (Operand.tmp 14) false, type := 3, pos := _, after := _, guard := none }) rfl (fun K hK => ?_) AllReadyH.nil
        go_simp
        refine hK.out _ _ ?_ (fun hHeld => ?_)
        · exact HS1.out
        clear hK K
        try simp only [Act.put, List.setIfInBounds_toArray, List.set_cons_zero, List.set_cons_succ]
        refine wpAnyH_take (i := 3) (oi := { dst := some 16, op := Op.binOp BinOp.add 3 (Operand.tmp 15) (Operand.const (Value.int IntKind.i64 1)) 3, type := 3, pos := _, after := _, guard := none }) (v := ?_) rfl (by kernel_rfl) (by kernel_rfl) (by kernel_rfl) (fun _ _ _ h => h) (Or.inl ⟨by rfl, ?_⟩) (by assumption) ?_
        rotate_left
        · intro wS hSw; (try dsimp only at hSw); go_simp; first | done | with_reducible rfl
        try simp only [Act.put, List.setIfInBounds_toArray, List.set_cons_zero, List.set_cons_succ]
        refine wpAnyH_ready (rs := [6]) (by kernel_rfl) (by simp) ?_
        refine AllReadyH.cons (o := { dst := none, op := Op.entryStore 52 (Operand.tmp 13) (Operand.tmp 18) (Operand.tmp 16), type := 0, pos := _, after := _, guard := none }) rfl (fun K hK => ?_) AllReadyH.nil
        go_simp
        refine hK.out _ _ ?_ (fun hHeld => ?_)
        · exact HS3.out
        clear hK K
        try simp only [Act.put, List.setIfInBounds_toArray, List.set_cons_zero, List.set_cons_succ]
        refine wpAnyH_done (by kernel_rfl) ?_ _
        go_wp2_with fail
        go_roundw
        case rel => exact ⟨j + 1, by omega, by first | rfl | go_num, HE.out.1, HE.out.2⟩
        case measure => simp [intOf]; omega
    · have hlt' : ¬ (j : Int) < n := by omega
      obtain rfl : j = n := by omega
      go_wp2_with fail
      go_ret
      obtain ⟨D, ho, hh⟩ := HM.out
      exact ⟨rfl, ⟨D, _, ho, hh⟩, hbw⟩
end Go.Proofs.Ytcdkocdjbpebpaa
/- Rows of options of the call's own; slices.Repeat of one option. -/
namespace Go.Proofs.Ytcdkocdjbpebpaa
open Go.RowKit

theorem run_copy3 {P : Program} (w : World) (dT sT ty elem : TypeId) (b o dLen dCap : Nat) (a : Addr) (sLen sCap m : Nat) (cs : List Value)
    (hu : P.underlying dT = some (.slice elem)) (hs : (P.info? elem).map (·.size) = some 3) (hm : m = Nat.min sLen dLen) (hn : cs.length = m * 3)
    (hsrc : ∀ j v, cs[j]? = some v → w.cell? (a.add j) = some v) (hc : ∀ j, j < cs.length → (w.cell? ⟨b, o + j, none⟩).isSome = true) (hf : ∀ j, j < cs.length → w.frozen? ⟨b, o + j, none⟩ = false) (h1 : ∀ v ∈ cs, v.oneCell' = true) :
    (Builtin.copy_ #[dT, sT] ty #[.slice (some ⟨b, o, none⟩) dLen dCap, .slice (some a) sLen sCap]).run P w = .ok (goInt m) (w.setCells b o cs) := by
  have hl := run_loadCells_list (P := P) w a cs hsrc
  have hst := run_storeCells_cells (P := P) b o cs 0 w (by simpa using hc) (by simpa using hf) h1
  cases hq : P.info? elem with
  | none => simp [hq] at hs
  | some i =>
    have hi : i.size = 3 := by simpa [hq] using hs
    simp [Builtin.copy_, run_underlying hu, Builtin.lenOf, Builtin.firstCells, sizeOf, typeInfo, hq, hi, ← hm, ← hn, hl, hst]

theorem and_mask (n : Nat) (hn : n ≤ 1000) : bits .and .u64 (n : Int) 4294967295 = n := by
  have := bits_and_u64_nat n 4294967295 (by omega) (by omega)
  rw [show (4294967295 : Nat) = 2 ^ 32 - 1 by decide, Nat.and_two_pow_sub_one_eq_mod n 32] at this
  rw [show ((4294967295 : Int)) = ((2 ^ 32 - 1 : Nat) : Int) by decide, this]
  have : n % 2 ^ 32 = n := Nat.mod_eq_of_lt (by omega)
  rw [this]
set_option maxHeartbeats 1000000 in
set_option maxRecDepth 100000 in
theorem mul64_one (n : Nat) (w : World) (hn : n ≤ 1000) :
    Calls Try.prog 54 #[.int .u64 1, .int .u64 n] w fun e w' => e = .returned (.tuple #[.int .u64 0, .int .u64 n]) ∧ w' = w := by
  have k0 := and_mask n hn
  have k2 := and_mask 1 (by omega)
  have k3 := and_mask 0 (by omega)
  simp only [Int.natCast_one, Int.natCast_zero] at k2 k3
  have k1 : (n : Int) / 4294967296 = 0 := by omega
  go_enter Try.func54, Try.ntmps54
  go_wp2
  go_ret2
  exact ⟨rfl, rfl⟩

theorem mulU_any (n : Nat) (w : World) (hn : n ≤ 1000) :
    Calls Try.prog 42 #[.int .u64 1, .int .u64 n] w fun e w' => e = .returned (.tuple #[.int .u64 0, .int .u64 n]) ∧ w' = w := by
  go_enter Try.func42, Try.ntmps42
  go_wp2_with fail
  refine (mul64_one n _ hn).mono ?_
  rintro e w2 ⟨rfl, rfl⟩
  go_wp2
  go_ret2
  exact ⟨rfl, rfl⟩
end Go.Proofs.Ytcdkocdjbpebpaa
/- slices.Repeat of one option. -/
namespace Go.Proofs.Ytcdkocdjbpebpaa
open Go.RowKit

theorem step_copy_run {P : Program} {ops : Array Oper} {o : Oper} {a : Act} {w : World} {K : Act → World → Prop} {Q : Exit → Act → World → Prop} {E : Prop} (hgd : o.guard = none) (d s : Operand) (t t' : TypeId)
    (ho : o.op = .call { callee := .builtin .copy, args := #[d, s], argTypes := #[t, t'] }) (v u : Value) (hd : a.eval d = v) (hs : a.eval s = u) {v' : Value} {w' : World}
    (hr : (Builtin.copy_ #[t, t'] o.type #[v, u]).run P w = .ok v' w') (h : K (a.put o.dst v') w') :
    if Region.wanted o (yielded ops a.tmps) = true then Oper.wp P o a w K Q else E := by
  have hw : Region.wanted o (yielded ops a.tmps) = true := by simp [Region.wanted, hgd]
  rw [if_pos hw]
  exact Go.Lib.wp_copy_run w d s t t' ho v u hd hs hr h

theorem below_setCells {base b : Nat} {w0 : World} : ∀ (vs : List Value) (o : Nat) (w : World), Below base w0 w → base ≤ b → Below base w0 (w.setCells b o vs)
  | [], _, _, h, _ => h
  | v :: r, o, _, h, hb => below_setCells r (o + 1) _ (h.setCell (p := ⟨b, o, none⟩) hb v) hb

/-- m times one option, as cells. -/
def repO (x : Int × Int × Int) (m : Nat) : List Value := (List.replicate m x).flatMap encO
theorem repO_len (x : Int × Int × Int) : ∀ m, (repO x m).length = m * 3
  | 0 => rfl
  | m + 1 => by
    have := repO_len x m
    unfold repO at *
    rw [List.replicate_succ, List.flatMap_cons, List.length_append, this]
    simp [encO]; omega
theorem repO_get (x : Int × Int × Int) : ∀ m t, t < m * 3 → (repO x m)[t]? = (encO x)[t % 3]?
  | 0, t, h => by omega
  | m + 1, t, h => by
    have ih := repO_get x m
    unfold repO at *
    rw [List.replicate_succ, List.flatMap_cons]
    by_cases c : t < 3
    · rw [List.getElem?_append_left (by simp [encO]; omega), Nat.mod_eq_of_lt c]
    · rw [List.getElem?_append_right (by simp [encO]; omega), show (encO x).length = 3 from rfl, ih (t - 3) (by omega)]
      congr 1; omega
theorem encO_get (x : Int × Int × Int) (t : Nat) : ∃ v, (encO x)[t % 3]? = some v ∧ v.oneCell' = true := by
  rcases (show t % 3 = 0 ∨ t % 3 = 1 ∨ t % 3 = 2 by omega) with h | h | h <;> rw [h] <;> exact ⟨_, rfl, rfl⟩
theorem repO_one (x : Int × Int × Int) (m : Nat) : ∀ v ∈ repO x m, v.oneCell' = true := by
  intro v hv
  unfold repO at hv
  obtain ⟨y, _, hy⟩ := List.mem_flatMap.1 hv
  simp [encO] at hy
  rcases hy with rfl | rfl | rfl <;> rfl

/-- A block that is filled with one option from the front. -/
structure Fill (g n : Nat) (x : Int × Int × Int) (w wr : World) (j : Nat) : Prop where
  there : ∀ t, t < n * 3 → (wr.cell? ⟨g, t, none⟩).isSome = true
  free : ∀ t, t < n * 3 → wr.frozen? ⟨g, t, none⟩ = false
  holds : ∀ t, t < j * 3 → wr.cell? ⟨g, t, none⟩ = (encO x)[t % 3]?
  below : Below w.heap.size w wr
theorem Fill.drew {g n : Nat} {x : Int × Int × Int} {w wr : World} {j : Nat} (h : Fill g n x w wr j) : Fill g n x w wr.drew j := ⟨h.there, h.free, h.holds, h.below.drew⟩
theorem Fill.more {g n : Nat} {x : Int × Int × Int} {w wr : World} {j m : Nat} (h : Fill g n x w wr j) (hg : w.heap.size ≤ g) (hm : j + m ≤ n) : Fill g n x w (wr.setCells g (j * 3) (repO x m)) (j + m) := by
  have hin := World.cell?_setCells_in g (repO x m) (j * 3) wr (fun t ht => h.there _ (by rw [repO_len] at ht; omega))
  have hout := World.cell?_setCells_out g (repO x m) (j * 3) wr
  have all : ∀ t, t < (j + m) * 3 → (wr.setCells g (j * 3) (repO x m)).cell? ⟨g, t, none⟩ = (encO x)[t % 3]? := fun t ht => by
    by_cases c : t < j * 3
    · rw [hout ⟨g, t, none⟩ (fun _ _ => Or.inl c)]; exact h.holds t c
    · have hl : t - j * 3 < (repO x m).length := by rw [repO_len]; omega
      have := hin (t - j * 3) hl
      rw [show j * 3 + (t - j * 3) = t by omega] at this
      rw [this, ← List.getElem?_eq_getElem hl, repO_get x m _ (by omega)]
      congr 1; omega
  refine ⟨fun t ht => ?_, fun t ht => (World.frozen?_setCells g _ _ _ _).trans (h.free t ht), all, below_setCells _ _ _ h.below hg⟩
  by_cases c : t < (j + m) * 3
  · rw [all t c]; obtain ⟨v, hv, _⟩ := encO_get x t; rw [hv]; rfl
  · rw [hout ⟨g, t, none⟩ (fun _ _ => Or.inr (by rw [repO_len]; show _ ≤ t; omega))]; exact h.there t ht
theorem Fill.copy {g n : Nat} {x : Int × Int × Int} {w wr : World} {j m : Nat} (h : Fill g n x w wr j) (hm : m = Nat.min j (n - j)) (hj : j < n) (c1 c2 : Nat) (ty : TypeId) :
    (Builtin.copy_ #[22, 22] ty #[.slice (some ⟨g, j * 3, none⟩) (n - j) c1, .slice (some ⟨g, 0, none⟩) j c2]).run Try.prog wr = .ok (goInt m) (wr.setCells g (j * 3) (repO x m)) := by
  have hmj : m ≤ j := by rw [hm]; exact Nat.min_le_left _ _
  have hmn : m ≤ n - j := by rw [hm]; exact Nat.min_le_right _ _
  refine run_copy3 wr _ _ ty 24 g (j * 3) (n - j) c1 ⟨g, 0, none⟩ j c2 m (repO x m) Try.underlying22 (by kernel_rfl) hm (repO_len x m) (fun t v hv => ?_) (fun t ht => h.there _ (by rw [repO_len] at ht; omega)) (fun t ht => h.free _ (by rw [repO_len] at ht; omega)) (repO_one x m)
  have ht : t < m * 3 := by rw [← repO_len x m]; exact (List.getElem?_eq_some_iff.1 hv).1
  rw [repO_get x m t ht] at hv
  rw [Go.WideShapes.add_plain, Nat.zero_add, h.holds t (by omega), hv]

def RepE (x : Int × Int × Int) (n : Nat) (w : World) (e : Ending) (w' : World) : Prop :=
  e = .returned (.slice (some ⟨w.heap.size, 0, none⟩) n n) ∧ (∀ t, t < n * 3 → w'.cell? ⟨w.heap.size, t, none⟩ = (encO x)[t % 3]?) ∧ Below w.heap.size w w'
theorem Try.infoOpt : (Try.prog.info? 24).map (fun i => (i.zero, i.size, i.bytes)) = some (some (.agg #[.int .i64 0, .int .i64 0, .int .i64 0]), 3, 24) := by kernel_rfl

set_option maxHeartbeats 2000000 in
set_option maxRecDepth 100000 in
theorem rep14_any (b n : Nat) (x : Int × Int × Int) (w : World) (hb : Thr w b x.1 x.2.1 x.2.2) (h1 : 1 ≤ n) (hn : n ≤ 1000) :
    Calls Try.prog 28 #[.slice (some ⟨b, 0, none⟩) 1 1, .int .i64 n] w (RepE x n w) := by
  obtain ⟨i0, hi, hz0, hz1, hz2⟩ := info_parts Try.infoOpt
  go_enter Try.func28, Try.ntmps28
  go_wp2_with fail
  refine (mulU_any n _ hn).mono ?_
  rintro e w2 ⟨rfl, rfl⟩
  have HF : Hid (∀ w3, w3.ownsRow w2.heap.size 24 3 (.slice (some ⟨w2.heap.size, 0, none⟩) n n) n (madeCells #[.int .i64 0, .int .i64 0, .int .i64 0] (n * 3)).toList → Below w2.heap.size w2 w3 → Fill w2.heap.size n x w2 w3 0) := fun w3 ho hb3 =>
    ⟨fun t ht => by
      rw [ho.cellAt t ht, List.getElem?_eq_getElem (by simp [madeCells]; exact ht)]; rfl, fun t _ => ho.frozenAt t, fun t ht => by omega, hb3⟩
  go_wp2_with (first
    | (at_make; refine wpList_make_full _ rfl _ _ 22 rfl w2.heap.size 24 i0 (.agg #[.int .i64 0, .int .i64 0, .int .i64 0]) 3 Try.underlying22 hi hz0 hz1 .i64 .i64 n n n rfl rfl rfl rfl (by rw [hz2]; omega) (by unfold maxLen; omega) (Nat.le_refl _) ?_; intro w3 hown hgrow))
  have hF0 := HF.out w3 hown ((Below.refl _ _).grown hgrow (Nat.le_refl _) (by intro k hk; cases hk))
  have hb3 := hb.later hF0.below
  clear hown hgrow hi hz0 hz1 hz2 HF hb
  have hr : (Builtin.copy_ #[22, 22] 3 #[.slice (some ⟨w2.heap.size, 0, none⟩) n n, .slice (some ⟨b, 0, none⟩) 1 1]).run Try.prog w3 = .ok (goInt 1) (w3.setCells w2.heap.size 0 (repO x 1)) := by
    refine run_copy3 w3 _ _ _ 24 w2.heap.size 0 n n ⟨b, 0, none⟩ 1 1 1 (repO x 1) Try.underlying22 (by kernel_rfl) (by simp [Nat.min_def]; omega) (repO_len x 1) (fun t v hv => ?_) (fun t ht => ?_) (fun t ht => ?_) (repO_one x 1)
    · rw [Go.WideShapes.add_plain, Nat.zero_add]
      match t, hv with
      | 0, hv => simp [repO, encO] at hv; rw [← hv]; exact hb3.1
      | 1, hv => simp [repO, encO] at hv; rw [← hv]; exact hb3.2.1
      | 2, hv => simp [repO, encO] at hv; rw [← hv]; exact hb3.2.2
    · rw [Nat.zero_add]; exact hF0.there t (by rw [repO_len] at ht; omega)
    · rw [Nat.zero_add]; exact hF0.free t (by rw [repO_len] at ht; omega)
  have HF1 : Hid (Fill w2.heap.size n x w2 (w3.setCells w2.heap.size 0 (repO x 1)) 1) := by
    have := hF0.more (m := 1) (Nat.le_refl _) (by omega)
    rwa [Nat.zero_mul, Nat.zero_add] at this
  rw [hr]
  simp only [Result.andThen]
  rw [Oper.upon_value]
  clear hr hF0 hb3
  generalize w3.setCells w2.heap.size 0 (repO x 1) = w4 at *
  go_wp2_with fail
  go_loopw [8] (fun v wr => ∃ j : Nat, v = .int .i64 j ∧ 1 ≤ j ∧ j ≤ n ∧ Hid (Fill w2.heap.size n x w2 wr j)) (fun v _ => ((n : Int) - intOf v).toNat)
  case atStart => exact ⟨1, rfl, by omega, by omega, HF1.out⟩
  case round =>
    obtain ⟨j, rfl, hj1, hjn, HR⟩ := hrel
    by_cases hlt : j < n
    · have hlt' : (j : Int) < n := by omega
      obtain ⟨m, hm⟩ : ∃ m, m = Nat.min j (n - j) := ⟨_, rfl⟩
      have hm1 : 1 ≤ m := hm ▸ Nat.le_min.2 ⟨hj1, by omega⟩
      have hm2 : m ≤ n - j := hm ▸ Nat.min_le_right _ _
      have hr := (HR.out.drew).copy hm hlt (n - j) n 3
      have HN : Hid (Fill w2.heap.size n x w2 (wr.drew.setCells w2.heap.size (j * 3) (repO x m)) (j + m)) := HR.out.drew.more (Nat.le_refl _) (by omega)
      have hnj : ¬ n = j := by omega
      have hw : IntKind.i64.wrap ((j : Int) + m) = (j : Int) + m := by rw [IntKind.wrap_i64]; omega
      clear hm
      go_wp2_with fail
      go_region_held3 (fun _ => True) (exact trivial)
        (first | (refine step_copy_run (by rfl) _ _ _ _ (by rfl) _ _ (by rfl) (by rfl) hr ?_))
      all_goals
        go_wp2
        go_roundw
        case rel => exact ⟨j + m, by first | rfl | go_num, by omega, by omega, HN⟩
        case measure => simp [intOf]; omega
    · have hlt' : ¬ (j : Int) < n := by omega
      obtain rfl : j = n := by omega
      go_wp2
      go_ret
      exact ⟨rfl, HR.out.holds, HR.out.below⟩
end Go.Proofs.Ytcdkocdjbpebpaa
/- Sort: what it holds on the way; what is sorted. -/
namespace Go.Proofs.Ytcdkocdjbpebpaa
open Go.RowKit Go.Maps Go.WideMaps
open Go.Sort (SWO swp HoldsK putRowK PermIn SortedIn)

/-- Options as cells. -/
def flatO (S : List (Int × Int × Int)) : List Value := S.flatMap encO
theorem flatO_len (S : List (Int × Int × Int)) : (flatO S).length = S.length * 3 := by
  unfold flatO
  induction S with
  | nil => rfl
  | cons a S ih => rw [List.flatMap_cons, List.length_append, ih]; simp [encO]; omega
theorem flatO_app (S T : List (Int × Int × Int)) : flatO (S ++ T) = flatO S ++ flatO T := by unfold flatO; rw [List.flatMap_append]
theorem flatO_get (S : List (Int × Int × Int)) : ∀ t, t < S.length * 3 → (flatO S)[t]? = (encO (S.getD (t / 3) (0, 0, 0)))[t % 3]? := by
  unfold flatO
  induction S with
  | nil => intro t h; simp at h
  | cons a S ih =>
    intro t h
    rw [List.flatMap_cons]
    by_cases c : t < 3
    · rw [List.getElem?_append_left (by simp [encO]; omega), Nat.mod_eq_of_lt c, show t / 3 = 0 by omega]; rfl
    · rw [List.getElem?_append_right (by simp [encO]; omega), show (encO a).length = 3 from rfl, ih (t - 3) (by simp at h; omega)]
      obtain ⟨u, rfl⟩ : ∃ u, t = u + 3 := ⟨t - 3, by omega⟩
      rw [show u + 3 - 3 = u by omega, show (u + 3) / 3 = u / 3 + 1 by omega, show (u + 3) % 3 = u % 3 by omega]
      rfl
def OwnO (w : World) (base : Nat) (v : Value) (S : List (Int × Int × Int)) : Prop := w.ownsRow base 24 3 v S.length (flatO S)
theorem OwnO.kept {w w' : World} {base : Nat} {v : Value} {S : List (Int × Int × Int)} {row : Option Nat} (h : OwnO w base v S) (hg : w.grownBy w' row) (hne : ∀ g, v.ownBlock = some g → some g ≠ row) : OwnO w' base v S := by
  obtain ⟨hl, h⟩ := h
  refine ⟨hl, ?_⟩
  rcases h with h | ⟨g, cap, cur, rfl, hb, hh, h1, h2, h3, h4⟩
  · exact Or.inl h
  · have hlt := (Array.getElem?_eq_some_iff.1 hh).1
    exact Or.inr ⟨g, cap, cur, rfl, hb, (hg.block g hlt (hne g rfl)).trans hh, h1, h2, h3, h4⟩
theorem OwnO.later {w w' : World} {base : Nat} {v : Value} {S : List (Int × Int × Int)} (h : OwnO w base v S) (hb : Below w.heap.size w w') : OwnO w' base v S := h.kept (grown_below14 hb) (fun g _ => by simp)
theorem OwnO.low {w : World} {base : Nat} {v : Value} {S : List (Int × Int × Int)} (h : OwnO w base v S) : ∀ k, v.ownBlock = some k → base ≤ k ∧ k < w.heap.size := fun k e => by
  obtain ⟨_, ⟨rfl, _⟩ | ⟨g, cap, cur, rfl, hb, hh, _⟩⟩ := h
  · cases e
  · cases e; exact ⟨hb, (Array.getElem?_eq_some_iff.1 hh).1⟩
/-- Its block is no map's, no iterator's, and not that of a variable that holds a list. -/
theorem OwnO.apart {w : World} {base b : Nat} {v : Value} {S : List (Int × Int × Int)} (h : OwnO w base v S) (hn : ∀ cur, w.heap[b]? ≠ some (.cells cur 24 (0, 0))) : some b ≠ v.ownBlock := fun e => by
  obtain ⟨_, ⟨rfl, _⟩ | ⟨g, cap, cur, rfl, hb, hh, _⟩⟩ := h
  · cases e
  · cases e; exact hn cur hh
theorem ranges_apart {w : World} {b r n : Nat} {D : DataW Unit} {left : Lit → Bool} {cnt : Nat} (h : w.ranges Try.prog 24 encC b r n D left cnt) : (∀ cur, w.heap[b]? ≠ some (.cells cur 24 (0, 0))) ∧ ∀ cur, w.heap[r]? ≠ some (.cells cur 24 (0, 0)) := by
  obtain ⟨es, clock, since, seen, c0, hb, _, _, _, hr, _⟩ := h
  exact ⟨fun cur e => (by rw [hb] at e; cases e), fun cur e => (by rw [hr] at e; cases e)⟩

/-- The variable that holds the list. -/
def Vr (w : World) (p : Nat) (v : Value) : Prop := w.heap[p]? = some (.cells #[v] 22 (0, 0))
theorem Vr.apart {w : World} {p : Nat} {v : Value} (h : Vr w p v) : ∀ cur, w.heap[p]? ≠ some (.cells cur 24 (0, 0)) := fun cur e => by
  unfold Vr at h
  rw [h] at e
  simp at e
theorem Vr.cell {w : World} {p : Nat} {v : Value} (h : Vr w p v) : w.cell? ⟨p, 0, none⟩ = some v ∧ w.frozen? ⟨p, 0, none⟩ = false := by
  unfold Vr at h
  exact ⟨by simp [World.cell?, h], by simp [World.frozen?, h]⟩
theorem Vr.lt {w : World} {p : Nat} {v : Value} (h : Vr w p v) : p < w.heap.size := (Array.getElem?_eq_some_iff.1 h).1
theorem Vr.kept {w w' : World} {p : Nat} {v : Value} {row : Option Nat} (h : Vr w p v) (hg : w.grownBy w' row) (hne : some p ≠ row) : Vr w' p v := (hg.block p h.lt hne).trans h
theorem Vr.put {w : World} {p : Nat} {v : Value} (h : Vr w p v) (u : Value) : Vr (w.setCell ⟨p, 0, none⟩ u) p u := by
  unfold Vr at *
  simp [World.setCell, Array.getElem?_modify, h]
theorem Vr.new (w : World) (v : Value) : Vr (w.alloc (.cells #[v] 22)) w.heap.size v := by
  unfold Vr; exact heap_alloc_last w _

theorem len_le_of_count : ∀ (S l : List (Int × Int × Int)), (∀ x, S.count x ≤ l.count x) → S.length ≤ l.length
  | [], _, _ => by simp
  | a :: S, l, h => by
    have ha : a ∈ l := by
      have := h a
      rw [List.count_cons_self] at this
      exact List.count_pos_iff.1 (by omega)
    have ih := len_le_of_count S (l.erase a) (fun x => by
      have := h x
      rw [List.count_erase]
      by_cases c : a = x
      · subst c; rw [List.count_cons_self] at this; simp; omega
      · rw [List.count_cons_of_ne c] at this
        have : (a == x) = false := by simpa using c
        rw [this]; simp; omega)
    have := List.length_erase_of_mem ha
    have := List.length_pos_of_mem ha
    simp; omega
def lstO (f : Nat → Int × Int × Int) (n : Nat) : List (Int × Int × Int) := (List.range n).map f
theorem lstO_count (f : Nat → Int × Int × Int) (x : Int × Int × Int) : ∀ n, (lstO f n).count x = cntO f n x
  | 0 => rfl
  | n + 1 => by
    unfold lstO cntO
    rw [List.range_succ, List.map_append, List.count_append]
    have := lstO_count f x n
    unfold lstO at this
    rw [this]
    congr 1
    by_cases c : f n = x
    · simp [c]
    · simp [c]
end Go.Proofs.Ytcdkocdjbpebpaa
/- Walks of package option: Sort. -/
namespace Go.Proofs.Ytcdkocdjbpebpaa
open Go.RowKit Go.Maps Go.WideMaps
open Go.Sort (SWO swp HoldsK putRowK PermIn SortedIn)

def leftO (left : Lit → Bool) (x : Int × Int × Int) : Lit → Bool := fun z => left z && !z.sameKey (kL x)
theorem leftO_same (left : Lit → Bool) {x : Int × Int × Int} (hx : wfO x) : leftO left x (kL x) = false := by unfold leftO; rw [WideAt.sameKey_self (kL_key hx)]; simp
theorem leftO_other (left : Lit → Bool) {x y : Int × Int × Int} (hx : wfO x) (hy : wfO y) (h : y ≠ x) : leftO left x (kL y) = left (kL y) := by unfold leftO; rw [sameKey_ne (kL_ne hy hx h)]; simp

/-- What Sort holds while it goes over the map. -/
structure Srs (base sb mb rb N : Nat) (D : DataW Unit) (left : Lit → Bool) (cnt : Nat) (v : Value) (S : List (Int × Int × Int)) (w : World) : Prop where
  rng : w.ranges Try.prog 24 encC mb rb N D left cnt
  var : Vr w sb v
  own : OwnO w base v S
theorem Srs.ne {base sb mb rb N : Nat} {D : DataW Unit} {left : Lit → Bool} {cnt : Nat} {v : Value} {S : List (Int × Int × Int)} {w : World} (h : Srs base sb mb rb N D left cnt v S w) : some mb ≠ v.ownBlock ∧ some rb ≠ v.ownBlock ∧ some sb ≠ v.ownBlock :=
  ⟨h.own.apart (ranges_apart h.rng).1, h.own.apart (ranges_apart h.rng).2, h.own.apart h.var.apart⟩
theorem Srs.ne2 {base sb mb rb N : Nat} {D : DataW Unit} {left : Lit → Bool} {cnt : Nat} {v : Value} {S : List (Int × Int × Int)} {w : World} (h : Srs base sb mb rb N D left cnt v S w) : mb ≠ sb ∧ rb ≠ sb := by
  obtain ⟨es, clock, since, seen, c0, hb, _, _, _, hr, _⟩ := h.rng
  have hv := h.var
  unfold Vr at hv
  exact ⟨fun e => (by rw [e, hv] at hb; cases hb), fun e => (by rw [e, hv] at hr; cases hr)⟩
theorem Srs.later {base sb mb rb N : Nat} {D : DataW Unit} {left : Lit → Bool} {cnt : Nat} {v : Value} {S : List (Int × Int × Int)} {w w' : World} (h : Srs base sb mb rb N D left cnt v S w) (hb : Below w.heap.size w w') : Srs base sb mb rb N D left cnt v S w' :=
  ⟨h.rng.kept (grown_below14 hb) (by simp) (by simp), h.var.kept (grown_below14 hb) (by simp), h.own.later hb⟩
/-- A step of the range itself. -/
theorem Srs.next {base sb mb rb N : Nat} {D : DataW Unit} {left left' : Lit → Bool} {cnt cnt' : Nat} {v : Value} {S : List (Int × Int × Int)} {w w' : World} (h : Srs base sb mb rb N D left cnt v S w) (hr : w'.ranges Try.prog 24 encC mb rb N D left' cnt') (hg : w.grownBy w' (some rb)) : Srs base sb mb rb N D left' cnt' v S w' :=
  ⟨hr, h.var.kept hg (fun e => h.ne2.2 (by cases e; rfl)), h.own.kept hg (fun g hgo e => h.ne.2.1 (by rw [← e, ← hgo]))⟩
theorem grown_set14 (w : World) (p : Nat) (u : Value) : w.grownBy (w.setCell ⟨p, 0, none⟩ u) (some p) := ⟨rfl, rfl, rfl, by simp, fun k _ hne => Below.heap_setCell _ _ _ _ (fun e => hne (by rw [e]))⟩
/-- Options are appended, and the list is laid back. -/
theorem Srs.put {base sb mb rb N : Nat} {D : DataW Unit} {left : Lit → Bool} {cnt : Nat} {v v' : Value} {S S' : List (Int × Int × Int)} {w w' : World} (h : Srs base sb mb rb N D left cnt v S w) (ho : OwnO w' base v' S') (hg : w.grownBy w' v.ownBlock) :
    Srs base sb mb rb N D left cnt v' S' (w'.setCell ⟨sb, 0, none⟩ v') := by
  have hv := h.var.kept hg h.ne.2.2
  exact ⟨(h.rng.kept hg h.ne.1 h.ne.2.1).kept (grown_set14 _ _ _) (fun e => h.ne2.1 (by cases e; rfl)) (fun e => h.ne2.2 (by cases e; rfl)), hv.put v',
    ho.kept (grown_set14 _ _ _) (fun g hgo e => ho.apart hv.apart (by rw [← e, ← hgo]))⟩
/-- How many there are of each on the way. -/
def CntS (C : Int × Int × Int → Nat) (left : Lit → Bool) (S : List (Int × Int × Int)) : Prop := (∀ x, wfO x → S.count x = if left (kL x) = true then 0 else C x) ∧ ∀ x, x ∈ S → wfO x
theorem CntS.more {C : Int × Int × Int → Nat} {left : Lit → Bool} {S : List (Int × Int × Int)} {x : Int × Int × Int} (h : CntS C left S) (hx : wfO x) (hl : left (kL x) = true) : CntS C (leftO left x) (S ++ List.replicate (C x) x) := by
  refine ⟨fun y hy => ?_, fun y hy => ?_⟩
  · rw [List.count_append, h.1 y hy, List.count_replicate]
    by_cases c : y = x
    · subst c
      rw [hl, leftO_same left hx]; simp
    · rw [leftO_other left hx hy c]
      have : (x == y) = false := by simpa using fun e => c e.symm
      rw [this]; simp
  · rcases List.mem_append.1 hy with h1 | h1
    · exact h.2 y h1
    · rw [List.eq_of_mem_replicate h1]; exact hx
theorem cntO_wf {f : Nat → Int × Int × Int} {x : Int × Int × Int} : ∀ n, (∀ i, i < n → wfO (f i)) → ¬ wfO x → cntO f n x = 0
  | 0, _, _ => rfl
  | n + 1, h, hx => by
    unfold cntO
    rw [cntO_wf n (fun i hi => h i (by omega)) hx, if_neg (fun e => hx (by rw [← e]; exact h n (by omega)))]
theorem CntS.le {f : Nat → Int × Int × Int} {n : Nat} {left : Lit → Bool} {S : List (Int × Int × Int)} (h : CntS (cntO f n) left S) : S.length ≤ n := by
  have := len_le_of_count S (lstO f n) (fun x => by
    rw [lstO_count]
    by_cases hx : wfO x
    · rw [h.1 x hx]; split <;> omega
    · rw [List.count_eq_zero.2 (fun hm => hx (h.2 x hm))]; omega)
  simpa [lstO] using this
theorem CntS.fin {f : Nat → Int × Int × Int} {n : Nat} {left : Lit → Bool} {S : List (Int × Int × Int)} (h : CntS (cntO f n) left S) (hl : ∀ kl, left kl = false) (hf : ∀ i, i < n → wfO (f i)) : S.Perm (lstO f n) := by
  rw [List.perm_iff_count]
  intro x
  rw [lstO_count]
  by_cases hx : wfO x
  · rw [h.1 x hx, hl]; rfl
  · rw [List.count_eq_zero.2 (fun hm => hx (h.2 x hm)), cntO_wf n hf hx]

/-- The step of a range over such a map. -/
theorem next_opt {w : World} {ops : Array Oper} {rest : List Oper} {o : Oper} {act : Act} {Q : Exit → Act → World → Prop} (hg : o.guard = none) (it : Operand) (hop : o.op = Op.next it false)
    (b r N : Nat) (D : DataW Unit) (left : Lit → Bool) (cnt : Nat) (C : Int × Int × Int → Nat) (hit : act.eval it = .pointer (some ⟨r, 0, none⟩)) (h : w.ranges Try.prog 24 encC b r N D left cnt) (hH : HoldC D C)
    (hDone : (∀ kl, left kl = false) → wpList Try.prog ops Q rest (act.put o.dst (.tuple #[.bool false])) w)
    (hMore : ∀ (x : Int × Int × Int) (w' : World) (cnt' : Nat), wfO x → 0 < C x → left (kL x) = true → w'.ranges Try.prog 24 encC b r N D (leftO left x) cnt' → cnt' < cnt → w.grownBy w' (some r) → w'.heap.size = w.heap.size →
      (Instr.entry (.pointer (some ⟨r, 0, none⟩))).run Try.prog w' = .ok (.tuple #[kV x, .int .i64 (C x)]) w' →
      wpList Try.prog ops Q rest (act.put o.dst (.tuple #[.bool true, kV x, .int .i64 (C x)])) w') :
    wpList Try.prog ops Q (o :: rest) act w := by
  refine wpList_next_ranges w hg it hop 24 keysO encC kV (Value.int .i64) (fun key kl hkey => by obtain ⟨x, e, _⟩ := kV_of hkey; exact ⟨x, e⟩) (fun v y hv => by obtain ⟨q, e, _⟩ := encC_is hv; exact ⟨q, e⟩)
    b r N D left cnt hit h (fun _ h => hDone h) (fun x c kl y w' cnt' hkey hlk hv hat hrg hlt hgr hsz hen => ?_)
  obtain ⟨x', ex, hx⟩ := kV_of hkey
  obtain rfl := kV_inj ex
  have hkl : kl = kL x := by have := kL_is hx; rw [hkey] at this; exact Option.some.inj this
  subst hkl
  obtain ⟨q, eq, rfl⟩ := encC_is hv
  cases eq
  have h1 := hat (dC 0)
  rw [hH.at_ x hx] at h1
  unfold dC at h1
  simp at h1
  obtain ⟨x2, hx2, he, hp⟩ := hH.keys _ (has_true_of_atKey hat)
  have e2 : x = x2 := Classical.byContradiction fun hn => kL_ne hx hx2 hn he
  subst e2
  rw [← h1] at hen ⊢
  exact hMore x w' cnt' hx hp hlk hrg hlt hgr hsz hen
end Go.Proofs.Ytcdkocdjbpebpaa
/- Sort: appending a row of one option; from the list made to the row that is sorted. -/
namespace Go.Proofs.Ytcdkocdjbpebpaa
open Go.RowKit Go.Maps Go.WideMaps
open Go.Sort (SWO swp HoldsK putRowK PermIn SortedIn)

theorem flatO_rep (x : Int × Int × Int) : ∀ c t, t < c * 3 → (flatO (List.replicate c x))[t]? = (encO x)[t % 3]? := fun c t h => by
  rw [flatO_get _ t (by simpa using h)]
  congr 2
  rw [List.getD_eq_getElem?_getD, List.getElem?_replicate, if_pos (by omega)]
  rfl
theorem flatO_one (S : List (Int × Int × Int)) : ∀ u ∈ flatO S, u.oneCell' = true := fun u hu => by
  unfold flatO at hu
  obtain ⟨x, _, h⟩ := List.mem_flatMap.1 hu
  simp [encO] at h
  rcases h with rfl | rfl | rfl <;> rfl
theorem wp_append_rep {w : World} {o : Oper} {act : Act} {K : Act → World → Prop} {Q : Exit → Act → World → Prop} (s x : Operand)
    (ho : o.op = .call { callee := .builtin .append, args := #[s, x], argTypes := #[22, 22] }) (base : Nat) (v : Value) (S : List (Int × Int × Int)) (b c : Nat) (q : Int × Int × Int)
    (hs : act.eval s = v) (hown : OwnO w base v S) (hv : v ≠ .slice none 0 0) (hx : act.eval x = .slice (some ⟨b, 0, none⟩) c c) (hc : ∀ t, t < c * 3 → w.cell? ⟨b, t, none⟩ = (encO q)[t % 3]?) (hn : S.length + c ≤ 100000) (hbase : base ≤ w.heap.size)
    (h : ∀ v' w', OwnO w' base v' (S ++ List.replicate c q) → w.grownBy w' v.ownBlock → v' ≠ .slice none 0 0 → K (act.put o.dst v') w') : o.wp Try.prog act w K Q := by
  obtain ⟨i0, hi, hz0, hz1, hz2⟩ := info_parts Try.infoOpt
  refine wp_append_own w s x 22 ho base 24 i0 _ 3 24 Try.underlying22 hi hz0 hz1 hz2 rfl (by decide) v S.length (flatO S) hs hown ⟨b, 0, none⟩ c c (flatO (List.replicate c q)) hx (by rw [flatO_len]; simp) (fun j u hu => ?_) (flatO_one _) (by unfold maxLen; omega) (by omega) hbase ?_
  · have hj := (List.getElem?_eq_some_iff.1 hu).1
    rw [flatO_len, List.length_replicate] at hj
    rw [Go.WideShapes.add_plain, Nat.zero_add, hc j hj, ← hu, flatO_rep q c j hj]
  · intro v' w' g1 g2 g3
    refine h v' w' ?_ g2 (fun e => hv (g3.1 e).1)
    unfold OwnO
    rw [← flatO_app] at g1
    simpa using g1
theorem step_append_rep {w : World} {ops : Array Oper} {o : Oper} {act : Act} {K : Act → World → Prop} {Q : Exit → Act → World → Prop} {E : Prop} (hgd : o.guard = Option.none) (s x : Operand)
    (ho : o.op = .call { callee := .builtin .append, args := #[s, x], argTypes := #[22, 22] }) (base : Nat) (v : Value) (S : List (Int × Int × Int)) (b c : Nat) (q : Int × Int × Int)
    (hs : act.eval s = v) (hown : OwnO w base v S) (hv : v ≠ .slice none 0 0) (hx : act.eval x = .slice (some ⟨b, 0, none⟩) c c) (hc : ∀ t, t < c * 3 → w.cell? ⟨b, t, none⟩ = (encO q)[t % 3]?) (hn : S.length + c ≤ 100000) (hbase : base ≤ w.heap.size)
    (h : ∀ v' w', OwnO w' base v' (S ++ List.replicate c q) → w.grownBy w' v.ownBlock → v' ≠ .slice none 0 0 → K (act.put o.dst v') w') :
    if Region.wanted o (yielded ops act.tmps) = true then Oper.wp Try.prog o act w K Q else E := by
  have hw : Region.wanted o (yielded ops act.tmps) = true := by simp [Region.wanted, hgd]
  rw [if_pos hw]
  exact wp_append_rep s x ho base v S b c q hs hown hv hx hc hn hbase h

theorem getE (L : List (Int × Int × Int)) (j : Nat) (h : j < L.length) : L.toArray[j]! = L.getD j (0, 0, 0) := by
  rw [getElem!_pos _ j (by simpa using h), List.getD_eq_getElem?_getD, List.getElem?_eq_getElem h]; simp
/-- The list that is made, as the row that is sorted. -/
theorem OwnO.srt {w : World} {base sb : Nat} {v ty : Value} {S : List (Int × Int × Int)} (h : OwnO w base v S) (hv : v ≠ .slice none 0 0) (hvar : Vr w sb v) (hn : S.length ≤ 1000) (hty : ty = typeHandle Try.prog 24) :
    ∃ g cap, v = .slice (some ⟨g, 0, none⟩) S.length cap ∧ base ≤ g ∧ S.length ≤ cap ∧ cap ≤ maxLen ∧ Srt sb g 0 S.length cap ty w S.toArray := by
  have ha := h.apart hvar.apart
  have ho := h
  obtain ⟨_, ⟨e, _⟩ | ⟨g, cap, cur, rfl, hb, hh, h1, h2, _⟩⟩ := h
  · exact absurd e hv
  · refine ⟨g, cap, rfl, hb, h1, h2, ⟨fun j hj => ?_, hvar.cell.1, (Array.getElem?_eq_some_iff.1 hh).1, fun e => ha (by rw [e]; rfl), by simp, hn, hty⟩⟩
    have hj' : j < S.length * 3 := by simpa [Go.Sort.size_flatK] using hj
    refine ⟨?_, by rw [Nat.zero_add]; exact World.ownsRow.frozenAt ho j⟩
    rw [Nat.zero_add, World.ownsRow.cellAt ho j hj', flatO_get S j hj', Go.Sort.get_flatK _ _ _ _ (by simpa using hj'), getE S _ (by omega)]
    have hm : j % 3 < 3 := Nat.mod_lt _ (by omega)
    rw [getElem!_pos _ _ (by simpa [encO] using hm), List.getElem?_eq_getElem (by simpa [encO] using hm)]
    rfl
/-- What is sorted, as a list that is read. -/
theorem Srt.ops {Bs B n c : Nat} {ty : Value} {w : World} {d : Array (Int × Int × Int)} (h : Srt Bs B 0 n c ty w d) (h1 : n ≤ c) (h2 : c ≤ maxLen) : Ops w (.slice (some ⟨B, 0, none⟩) n c) n (fun i => d[i]!) :=
  ⟨_, c, rfl, h1, h2, fun e => (by cases e), fun _ => ⟨B, 0, rfl, fun i hi => h.at i hi⟩⟩
theorem lst_of (d : Array (Int × Int × Int)) : lstO (fun i => d[i]!) d.size = d.toList := by
  apply List.ext_getElem
  · simp [lstO]
  · intro i h1 h2
    simp [lstO] at h1 ⊢
    rw [getElem!_pos d i h1]
theorem cnt_perm {d : Array (Int × Int × Int)} {S : List (Int × Int × Int)} {f : Nat → Int × Int × Int} {n : Nat} (hd : d.size = n) (hS : S.length = n) (hp : PermIn 0 n S.toArray d) (hq : S.Perm (lstO f n)) (x : Int × Int × Int) : cntO (fun i => d[i]!) n x = cntO f n x := by
  have h1 : d.toList.Perm S := by
    have h := hp.2.2
    have e1 : d.extract 0 n = d := by subst hd; simp
    have e2 : S.toArray.extract 0 n = S.toArray := by subst hS; simp
    rw [e1, e2] at h
    simpa using h
  subst hd
  rw [← lstO_count, ← lstO_count, lst_of, (h1.trans hq).count_eq]
theorem Perm.len14 {S : List (Int × Int × Int)} {f : Nat → Int × Int × Int} {n : Nat} (hq : S.Perm (lstO f n)) : S.length = n := by have := hq.length_eq; simpa [lstO] using this
theorem cntO_pos {f : Nat → Int × Int × Int} {x : Int × Int × Int} : ∀ {n}, 0 < cntO f n x → ∃ i, i < n ∧ f i = x
  | 0, h => by simp [cntO] at h
  | n + 1, h => by
    unfold cntO at h
    by_cases c : f n = x
    · exact ⟨n, by omega, c⟩
    · rw [if_neg c] at h
      obtain ⟨i, hi, e⟩ := cntO_pos (n := n) (by omega)
      exact ⟨i, by omega, e⟩
theorem cntO_at {f : Nat → Int × Int × Int} : ∀ {n i}, i < n → 0 < cntO f n (f i)
  | n + 1, i, h => by
    unfold cntO
    by_cases c : i = n
    · subst c; rw [if_pos rfl]; omega
    · have := cntO_at (f := f) (n := n) (i := i) (by omega); omega

/-- What Sort answers. -/
def SortE (n : Nat) (f : Nat → Int × Int × Int) (w : World) (e : Ending) (w' : World) : Prop :=
  ∃ v g, e = .returned v ∧ Ops w' v n g ∧ (∀ x, cntO g n x = cntO f n x) ∧ (∀ i j, i < j → j < n → ltO (g j) (g i) = false) ∧ Below w.heap.size w w'
theorem sortE_of {n : Nat} {f : Nat → Int × Int × Int} {w wa wb : World} {S : List (Int × Int × Int)} {d : Array (Int × Int × Int)} {sb g cap : Nat} {ty : Value} (hn : S.length = n) (hq : S.Perm (lstO f n)) (hs : Srt sb g 0 n cap ty wb d) (hp : PermIn 0 n S.toArray d) (ho : SortedIn ltO 0 n d) (h1 : n ≤ cap) (h2 : cap ≤ maxLen)
    (hk : Kpt g wa wb) (hB : Below w.heap.size w wa) (hg : w.heap.size ≤ g) : SortE n f w (.returned (.slice (some ⟨g, 0, none⟩) n cap)) wb :=
  ⟨_, _, rfl, hs.ops h1 h2, cnt_perm hs.size hn hp hq, fun i j h3 h4 => ho i j (Nat.zero_le _) h3 h4, hk.from hB hg hB.size⟩
end Go.Proofs.Ytcdkocdjbpebpaa
/- Walks of package option: Sort. -/
namespace Go.Proofs.Ytcdkocdjbpebpaa
open Go.RowKit Go.Maps Go.WideMaps
open Go.Sort (SWO swp HoldsK putRowK PermIn SortedIn)

theorem Thr.kept3 {w w' : World} {b : Nat} {u m e : Int} {row : Option Nat} (h : Thr w b u m e) (hg : w.grownBy w' row) (hne : some b ≠ row) : Thr w' b u m e := by
  have hb := hg.block b h.lt hne
  exact ⟨(World.cell?_of_block (a := ⟨b, 0, none⟩) hb).trans h.1, (World.cell?_of_block (a := ⟨b, 1, none⟩) hb).trans h.2.1, (World.cell?_of_block (a := ⟨b, 2, none⟩) hb).trans h.2.2⟩
theorem OwnO.is {w : World} {base : Nat} {v : Value} {S : List (Int × Int × Int)} (h : OwnO w base v S) (hv : v ≠ .slice none 0 0) : ∃ g l c, v = .slice (some ⟨g, 0, none⟩) l c := by
  obtain ⟨_, ⟨e, _⟩ | ⟨g, cap, cur, rfl, _⟩⟩ := h
  · exact absurd e hv
  · exact ⟨g, _, cap, rfl⟩
theorem Thr.set14 {w : World} {b p : Nat} {u m e : Int} {v : Value} (h : Thr w b u m e) (hne : p ≠ b) : Thr (w.setCell ⟨p, 0, none⟩ v) b u m e := h.kept3 (grown_set14 w p v) (fun e => hne (by cases e; rfl))

set_option maxHeartbeats 2000000 in
set_option maxRecDepth 100000 in
theorem sort14_any (n : Nat) (f : Nat → Int × Int × Int) (v0 : Value) (w : World) (h : Ops w v0 n f) (hf : ∀ i, i < n → wfO (f i)) (hn : n ≤ 1000) :
    Calls Try.prog 14 #[v0] w (SortE n f w) := by
  obtain ⟨i0, hi, hz0, hz1, hz2⟩ := info_parts Try.infoOpt
  have HO : Hid (Ops w v0 n f) := h
  obtain ⟨ad, cap, rfl, h1, h2, h0, h3⟩ := h
  clear h3 h0
  have hb0 : Below w.heap.size w w := Below.refl _ _
  have HMK : Hid (∀ w3, w3.ownsRow w.heap.size 24 3 (.slice (some ⟨w.heap.size, 0, none⟩) 0 n) 0 [] → w.grownBy w3 none → OwnO w3 w.heap.size (.slice (some ⟨w.heap.size, 0, none⟩) 0 n) [] ∧ Below w.heap.size w w3) := fun w3 a b => ⟨a, (Below.refl _ _).grown b (Nat.le_refl _) (by intro k hk; cases hk)⟩
  go_enter Try.func14, Try.ntmps14
  go_wp2_with (first
    | (at_make; refine wpList_make_own _ rfl _ _ 22 rfl w.heap.size 24 i0 (.agg #[.int .i64 0, .int .i64 0, .int .i64 0]) 3 Try.underlying22 hi hz0 hz1 .i64 .i64 n n rfl rfl rfl (by rw [hz2]; omega) (by unfold maxLen; omega) (Nat.le_refl _) ?_; intro w1 hown hgrow))
  obtain ⟨ho1, hb1⟩ := HMK.out w1 hown hgrow
  clear hown hgrow HMK hi hz0 hz1 hz2
  have hb1a : Below w.heap.size w (w1.alloc (.cells #[.slice (some ⟨w.heap.size, 0, none⟩) 0 n] 22)) := hb1.alloc hb1.size _
  have HV1 : Hid (Vr (w1.alloc (.cells #[.slice (some ⟨w.heap.size, 0, none⟩) 0 n] 22)) w1.heap.size (.slice (some ⟨w.heap.size, 0, none⟩) 0 n)) := Vr.new w1 _
  have HO1 : Hid (OwnO (w1.alloc (.cells #[.slice (some ⟨w.heap.size, 0, none⟩) 0 n] 22)) w.heap.size (.slice (some ⟨w.heap.size, 0, none⟩) 0 n) []) := ho1.later ((Below.refl _ _).alloc (Nat.le_refl _) _)
  refine (count14_any n f _ _ (HO.out.later hb1a) hf hn).mono ?_
  rintro e w2 ⟨rfl, ⟨D, N, hown2, hH⟩, hb2⟩
  have HH : Hid (HoldC D (cntO f n)) := hH
  have HV2 : Hid (Vr w2 w1.heap.size (.slice (some ⟨w.heap.size, 0, none⟩) 0 n)) := HV1.out.kept (grown_below14 hb2) (by simp)
  have HO2 : Hid (OwnO w2 w.heap.size (.slice (some ⟨w.heap.size, 0, none⟩) 0 n) []) := HO1.out.later hb2
  have hb3 : Below w.heap.size w w2 := hb1a.trans (hb2.mono hb1a.size)
  have LOWS : w.heap.size ≤ w1.heap.size := hb1.size
  clear HV1 HO1 hb2 hb1a hb1 ho1 hH
  generalize (w1.alloc (.cells #[.slice (some ⟨w.heap.size, 0, none⟩) 0 n] 22)).heap.size = mb at *
  generalize w1.heap.size = sb at *
  clear w1
  go_wp2_with (first
    | (at_range; refine wpList_range_own _ rfl _ 52 rfl 24 3 keysO Try.underlying52 _ mb N _ rfl hown2 ?_; intro w3 hrg3 hg3 hs3)
    | go_in)
  have HS : Hid (Srs w.heap.size sb mb w2.heap.size N D (Maps.has D) (Maps.size D) (.slice (some ⟨w.heap.size, 0, none⟩) 0 n) [] w3) := ⟨hrg3, HV2.out.kept hg3 (by simp), HO2.out.kept hg3 (fun g _ => by simp)⟩
  have HC : Hid (CntS (cntO f n) (Maps.has D) []) := ⟨fun x hx => by
    show (0 : Nat) = _
    by_cases c : Maps.has D (kL x) = true
    · rw [if_pos c]
    · rw [if_neg c]
      by_cases c2 : 0 < cntO f n x
      · exact absurd (HH.out.pos x hx c2) c
      · omega, fun x hx => by simp at hx⟩
  have hb4 : Below w.heap.size w w3 := hb3.grown hg3 hb3.size (fun k hk => by cases hk)
  have LOW : w.heap.size ≤ w2.heap.size := hb3.size
  clear hg3 hs3 hrg3 HV2 HO2 hown2 hb3
  generalize w2.heap.size = rb at *
  clear w2
  go_frame
  go_loopw [5] (fun _ wr => ∃ (left : Lit → Bool) (cnt : Nat) (v : Value) (S : List (Int × Int × Int)), Hid (Srs w.heap.size sb mb rb N D left cnt v S wr) ∧ Hid (CntS (cntO f n) left S) ∧ Hid (v ≠ .slice none 0 0) ∧ Below w.heap.size w wr) (fun _ wr => wr.rangeLeft mb rb)
  case atStart => exact ⟨_, _, _, _, HS.out, HC.out, (by show _ ≠ _; simp), hb4⟩
  case round =>
    clear hb4 HC HS
    obtain ⟨left, cnt, v, S, HR, HC, HN, hbw⟩ := hrel
    go_wp2_with (first
      | (at_next; refine next_opt rfl _ rfl mb rb N D left cnt (cntO f n) rfl HR.out.rng HH.out ?_ ?_)
      | go_in)
    · intro hl0
      have HP : Hid (S.Perm (lstO f n)) := HC.out.fin hl0 hf
      have HL : Hid (S.length = n) := Perm.len14 HP.out
      obtain ⟨ty, hty⟩ : ∃ ty, ty = typeHandle Try.prog 24 := ⟨_, rfl⟩
      have hsr : ∃ g cap2, v = .slice (some ⟨g, 0, none⟩) n cap2 ∧ w.heap.size ≤ g ∧ n ≤ cap2 ∧ cap2 ≤ maxLen ∧ Srt sb g 0 n cap2 ty wr S.toArray := by
        have := HR.out.own.srt HN.out HR.out.var (by have := HL.out; omega) hty
        rw [HL.out] at this; exact this
      obtain ⟨g, cap2, rfl, hg, hc1, hc2, hsrt⟩ := hsr
      have HSR : Hid (Srt sb g 0 n cap2 ty wr S.toArray) := hsrt
      have hvar := hsrt.var
      clear hl0 hty hsrt HR HC HN
      go_wp2_with fail
      refine (slice_any HSR.out).mono ?_
      rintro e w5 ⟨d', rfl, r1, r2, r3, r4⟩
      have HE : Hid (SortE n f w (.returned (.slice (some ⟨g, 0, none⟩) n cap2)) w5) := sortE_of HL.out HP.out r1 r3 r4 hc1 hc2 r2 hbw hg
      have hvar5 := r1.var
      clear r1 r2 r3 r4 HSR hvar
      go_wp2_with fail
      go_ret
      exact HE.out
    · intro fa fb fc w4 cnt4 hx hp hl hrg4 hlt hg4 hs4 hen
      have HR4 : Hid (Srs w.heap.size sb mb rb N D (leftO left (fa, fb, fc)) cnt4 v S w4) := HR.out.next hrg4 hg4
      have HC4 : Hid (CntS (cntO f n) (leftO left (fa, fb, fc)) (S ++ List.replicate (cntO f n (fa, fb, fc)) (fa, fb, fc))) := HC.out.more hx hl
      have hb4 : Below w.heap.size w w4 := hbw.grown hg4 hbw.size (fun k hk => by cases hk; exact LOW)
      have hle := HC4.out.le
      have hcl := cntO_le f (fa, fb, fc) n
      have HLT : Hid (cnt4 < cnt) := hlt
      rw [List.length_append, List.length_replicate] at hle
      clear hrg4 hg4 hs4 hl hx hlt hbw
      obtain ⟨c, hc⟩ : ∃ c, cntO f n (fa, fb, fc) = c := ⟨_, rfl⟩
      rw [hc] at hp hen HC4 hle hcl ⊢
      unfold kV at hen ⊢
      simp only at hen ⊢
      clear hc
      have HSL : Hid (S.length + c ≤ n) := hle
      clear hle
      go_wp2_with fail
      have hx1 : Below w4.heap.size w4 (w4.alloc (.cells #[.int .i64 fa, .int .i64 fb, .int .i64 fc] 24)).drew := ((Below.refl _ _).alloc (Nat.le_refl _) _).drew
      have HG : Hid (Srs w.heap.size sb mb rb N D (leftO left (fa, fb, fc)) cnt4 v S (w4.alloc (.cells #[.int .i64 fa, .int .i64 fb, .int .i64 fc] 24)).drew ∧ Thr (w4.alloc (.cells #[.int .i64 fa, .int .i64 fb, .int .i64 fc] 24)).drew w4.heap.size fa fb fc ∧ Below w.heap.size w (w4.alloc (.cells #[.int .i64 fa, .int .i64 fb, .int .i64 fc] 24)).drew) := ⟨HR4.out.later hx1, (Thr.new w4 fa fb fc _).later (Below.refl _ _).drew, hb4.trans (hx1.mono hb4.size)⟩
      have HNO : Hid (some w4.heap.size ≠ v.ownBlock ∧ sb ≠ w4.heap.size) := ⟨fun e => Nat.lt_irrefl _ (HR4.out.own.low _ e.symm).2, fun e => Nat.lt_irrefl _ (e ▸ HR4.out.var.lt)⟩
      have HLQ : Hid (∀ y y' : World, Srs w.heap.size sb mb rb N D (leftO left (fa, fb, fc)) cnt4 v S y ∧ Thr y w4.heap.size fa fb fc ∧ Below w.heap.size w y → Below y.heap.size y y' → Srs w.heap.size sb mb rb N D (leftO left (fa, fb, fc)) cnt4 v S y' ∧ Thr y' w4.heap.size fa fb fc ∧ Below w.heap.size w y') := fun y y' g b => ⟨g.1.later b, g.2.1.later b, g.2.2.trans (b.mono g.2.2.size)⟩
      have HMS : Hid (wr.rangeLeft mb rb = cnt) := HR.out.rng.left_eq
      refine wp_region_held_drew (S := (fun w' : World => w'.cell? ⟨w4.heap.size, 0, none⟩ = some (.int .i64 fa) ∧ w'.cell? ⟨w4.heap.size, 1, none⟩ = some (.int .i64 fb) ∧ w'.cell? ⟨w4.heap.size, 2, none⟩ = some (.int .i64 fc))) (by kernel_rfl) ?_ (fun hHeld => ?_)
      · exact HG.out.2.1
      clear hx1 HR4 hb4 HR
      generalize (w4.alloc (.cells #[.int .i64 fa, .int .i64 fb, .int .i64 fc] 24)).drew = y0 at *
      generalize w4.heap.size = ob at *
      have HGy0 := HG
      clear HG
      refine wpAnyH_take (i := 1) (oi := { dst := some 18, op := Op.load 24 (Operand.tmp 4), type := 24, pos := _, after := _, guard := none }) (v := ?_) rfl (by kernel_rfl) (by kernel_rfl) (by kernel_rfl) (fun _ _ _ h => h) (Or.inl ⟨by rfl, ?_⟩) (by assumption) ?_
      rotate_left
      · intro wS hSw; (try dsimp only at hSw); go_simp; first | done | with_reducible rfl
      try simp only [Act.put, List.setIfInBounds_toArray, List.set_cons_zero, List.set_cons_succ]
      refine wpAnyH_take (i := 3) (oi := { dst := some 20, op := Op.move (Operand.tmp 5), type := 3, pos := _, after := _, guard := none }) (v := ?_) rfl (by kernel_rfl) (by kernel_rfl) (by kernel_rfl) (fun _ _ _ h => h) (Or.inl ⟨by rfl, ?_⟩) (by assumption) ?_
      rotate_left
      · intro wS hSw; (try dsimp only at hSw); go_simp; first | done | with_reducible rfl
      try simp only [Act.put, List.setIfInBounds_toArray, List.set_cons_zero, List.set_cons_succ]
      refine wpAnyH_ready (rs := [0, 2]) (by kernel_rfl) (by simp) ?_
      refine AllReadyH.cons (o := { dst := some 17, op := Op.load 22 (Operand.tmp 3), type := 22, pos := _, after := _, guard := none }) rfl (fun K hK => ?_) (AllReadyH.cons (o := { dst := some 19, op := Op.buildSlice 22 1 #[(0, Operand.tmp 18)], type := 22, pos := _, after := _, guard := none }) rfl (fun K hK => ?_) AllReadyH.nil)
      · have hc0 := HGy0.out.1.var.cell.1
        go_simp
        clear hc0
        refine hK.out _ _ ?_ (fun hHeld => ?_)
        · exact HGy0.out.2.1
        clear hK K
        try simp only [Act.put, List.setIfInBounds_toArray, List.set_cons_zero, List.set_cons_succ]
        refine wpAnyH_ready (rs := [2]) (by kernel_rfl) (by simp) ?_
        refine AllReadyH.cons (o := { dst := some 19, op := Op.buildSlice 22 1 #[(0, Operand.tmp 18)], type := 22, pos := _, after := _, guard := none }) rfl (fun K hK => ?_) AllReadyH.nil
        go_simp
        obtain ⟨y2, ey2⟩ : ∃ y, y0.alloc (.cells #[.int .i64 fa, .int .i64 fb, .int .i64 fc] 24) = y := ⟨_, rfl⟩
        rw [ey2]
        have HGy2 : Hid (Srs w.heap.size sb mb rb N D (leftO left (fa, fb, fc)) cnt4 v S y2 ∧ Thr y2 ob fa fb fc ∧ Below w.heap.size w y2) := HLQ.out _ _ HGy0.out (ey2 ▸ (Below.refl _ _).alloc (Nat.le_refl _) _)
        have HTy2 : Hid (Thr y2 y0.heap.size fa fb fc) := ey2 ▸ Thr.new _ fa fb fc _
        clear ey2
        refine hK.out _ _ ?_ (fun hHeld => ?_)
        · exact HGy2.out.2.1
        clear hK K
        try simp only [Act.put, List.setIfInBounds_toArray, List.set_cons_zero, List.set_cons_succ]
        refine wpAnyH_ready (rs := [4]) (by kernel_rfl) (by simp) ?_
        refine AllReadyH.cons (o := { dst := some 21, op := Op.call { callee := Callee.value (Operand.func 28), args := #[Operand.tmp 19, Operand.tmp 20], argTypes := #[22, 3] }, type := 22, pos := _, after := _, guard := none }) rfl (fun K hK => ?_) AllReadyH.nil
        go_simp
        refine (rep14_any y0.heap.size c (fa, fb, fc) _ HTy2.out (by omega) (by omega)).mono ?_
        rintro e y3 ⟨rfl, hcly3, hby3⟩
        have HGy3 : Hid (Srs w.heap.size sb mb rb N D (leftO left (fa, fb, fc)) cnt4 v S y3 ∧ Thr y3 ob fa fb fc ∧ Below w.heap.size w y3) := HLQ.out _ _ HGy2.out hby3
        have HPy3 : Hid (∀ t, t < c * 3 → y3.cell? ⟨y2.heap.size, t, none⟩ = (encO (fa, fb, fc))[t % 3]?) := hcly3
        clear hcly3 hby3
        go_wp2_with fail
        refine hK.out _ _ ?_ (fun hHeld => ?_)
        · exact HGy3.out.2.1
        clear hK K
        try simp only [Act.put, List.setIfInBounds_toArray, List.set_cons_zero, List.set_cons_succ]
        refine wpAnyH_ready (rs := [5]) (by kernel_rfl) (by simp) ?_
        refine AllReadyH.cons (o := { dst := some 22, op := Op.call { callee := Callee.builtin Builtin.append, args := #[Operand.tmp 17, Operand.tmp 21], argTypes := #[22, 22] }, type := 22, pos := _, after := _, guard := none }) rfl (fun K hK => ?_) AllReadyH.nil
        first | refine step_append_rep (by rfl) _ _ (by rfl) w.heap.size v S y2.heap.size c (fa, fb, fc) (by rfl) HGy3.out.1.own HN.out (by rfl) HPy3.out (by have := HSL.out; omega) HGy3.out.2.2.size ?_ | refine wp_append_rep _ _ (by rfl) w.heap.size v S y2.heap.size c (fa, fb, fc) (by rfl) HGy3.out.1.own HN.out (by rfl) HPy3.out (by have := HSL.out; omega) HGy3.out.2.2.size ?_
        intro v' y4 ho hg hv'
        obtain ⟨g5, l5, cap5, rfl⟩ := ho.is hv'
        have HV' : Hid ((Value.slice (some ⟨g5, 0, none⟩) l5 cap5) ≠ Value.slice none 0 0) := hv'
        have HTA : Hid (Thr y4 ob fa fb fc) := HGy3.out.2.1.kept3 hg HNO.out.1
        have HW : Hid (Vr y4 sb v) := HGy3.out.1.var.kept hg HGy3.out.1.ne.2.2
        have HF : Hid (Srs w.heap.size sb mb rb N D (leftO left (fa, fb, fc)) cnt4 (Value.slice (some ⟨g5, 0, none⟩) l5 cap5) (S ++ List.replicate c (fa, fb, fc)) (y4.setCell ⟨sb, 0, none⟩ (Value.slice (some ⟨g5, 0, none⟩) l5 cap5)) ∧ Below w.heap.size w (y4.setCell ⟨sb, 0, none⟩ (Value.slice (some ⟨g5, 0, none⟩) l5 cap5))) := ⟨HGy3.out.1.put ho hg, (HGy3.out.2.2.grown hg HGy3.out.2.2.size (fun k hk => (HGy3.out.1.own.low k hk).1)).grown (grown_set14 _ _ _) (Nat.le_trans HGy3.out.2.2.size hg.size) (fun k hk => by cases hk; exact LOWS)⟩
        clear ho hg hv'
        refine hK.out _ _ ?_ (fun hHeld => ?_)
        · exact HTA.out
        clear hK K
        try simp only [Act.put, List.setIfInBounds_toArray, List.set_cons_zero, List.set_cons_succ]
        refine wpAnyH_ready (rs := [6]) (by kernel_rfl) (by simp) ?_
        refine AllReadyH.cons (o := { dst := none, op := Op.store 22 (Operand.tmp 3) (Operand.tmp 22), type := 0, pos := _, after := _, guard := none }) rfl (fun K hK => ?_) AllReadyH.nil
        have hc0 := HW.out.cell.1
        have hc1 := HW.out.cell.2
        go_simp
        clear hc0 hc1
        refine hK.out _ _ ?_ (fun hHeld => ?_)
        · exact HTA.out.set14 HNO.out.2
        clear hK K
        try simp only [Act.put, List.setIfInBounds_toArray, List.set_cons_zero, List.set_cons_succ]
        refine wpAnyH_done (by kernel_rfl) ?_ _
        go_wp2_with fail
        go_roundw
        case rel => exact ⟨_, cnt4, (Value.slice (some ⟨g5, 0, none⟩) l5 cap5), _, HF.out.1, HC4.out, HV'.out, HF.out.2⟩
        case measure => rw [HF.out.1.rng.left_eq, HMS.out]; exact HLT.out
      · go_simp
        obtain ⟨y6, ey6⟩ : ∃ y, y0.alloc (.cells #[.int .i64 fa, .int .i64 fb, .int .i64 fc] 24) = y := ⟨_, rfl⟩
        rw [ey6]
        have HGy6 : Hid (Srs w.heap.size sb mb rb N D (leftO left (fa, fb, fc)) cnt4 v S y6 ∧ Thr y6 ob fa fb fc ∧ Below w.heap.size w y6) := HLQ.out _ _ HGy0.out (ey6 ▸ (Below.refl _ _).alloc (Nat.le_refl _) _)
        have HTy6 : Hid (Thr y6 y0.heap.size fa fb fc) := ey6 ▸ Thr.new _ fa fb fc _
        clear ey6
        refine hK.out _ _ ?_ (fun hHeld => ?_)
        · exact HGy6.out.2.1
        clear hK K
        try simp only [Act.put, List.setIfInBounds_toArray, List.set_cons_zero, List.set_cons_succ]
        refine wpAnyH_ready (rs := [0, 4]) (by kernel_rfl) (by simp) ?_
        refine AllReadyH.cons (o := { dst := some 17, op := Op.load 22 (Operand.tmp 3), type := 22, pos := _, after := _, guard := none }) rfl (fun K hK => ?_) (AllReadyH.cons (o := { dst := some 21, op := Op.call { callee := Callee.value (Operand.func 28), args := #[Operand.tmp 19, Operand.tmp 20], argTypes := #[22, 3] }, type := 22, pos := _, after := _, guard := none }) rfl (fun K hK => ?_) AllReadyH.nil)
        · have hc0 := HGy6.out.1.var.cell.1
          go_simp
          clear hc0
          refine hK.out _ _ ?_ (fun hHeld => ?_)
          · exact HGy6.out.2.1
          clear hK K
          try simp only [Act.put, List.setIfInBounds_toArray, List.set_cons_zero, List.set_cons_succ]
          refine wpAnyH_ready (rs := [4]) (by kernel_rfl) (by simp) ?_
          refine AllReadyH.cons (o := { dst := some 21, op := Op.call { callee := Callee.value (Operand.func 28), args := #[Operand.tmp 19, Operand.tmp 20], argTypes := #[22, 3] }, type := 22, pos := _, after := _, guard := none }) rfl (fun K hK => ?_) AllReadyH.nil
          go_simp
          refine (rep14_any y0.heap.size c (fa, fb, fc) _ HTy6.out (by omega) (by omega)).mono ?_
          rintro e y8 ⟨rfl, hcly8, hby8⟩
          have HGy8 : Hid (Srs w.heap.size sb mb rb N D (leftO left (fa, fb, fc)) cnt4 v S y8 ∧ Thr y8 ob fa fb fc ∧ Below w.heap.size w y8) := HLQ.out _ _ HGy6.out hby8
          have HPy8 : Hid (∀ t, t < c * 3 → y8.cell? ⟨y6.heap.size, t, none⟩ = (encO (fa, fb, fc))[t % 3]?) := hcly8
          clear hcly8 hby8
          go_wp2_with fail
          refine hK.out _ _ ?_ (fun hHeld => ?_)
          · exact HGy8.out.2.1
          clear hK K
          try simp only [Act.put, List.setIfInBounds_toArray, List.set_cons_zero, List.set_cons_succ]
          refine wpAnyH_ready (rs := [5]) (by kernel_rfl) (by simp) ?_
          refine AllReadyH.cons (o := { dst := some 22, op := Op.call { callee := Callee.builtin Builtin.append, args := #[Operand.tmp 17, Operand.tmp 21], argTypes := #[22, 22] }, type := 22, pos := _, after := _, guard := none }) rfl (fun K hK => ?_) AllReadyH.nil
          first | refine step_append_rep (by rfl) _ _ (by rfl) w.heap.size v S y6.heap.size c (fa, fb, fc) (by rfl) HGy8.out.1.own HN.out (by rfl) HPy8.out (by have := HSL.out; omega) HGy8.out.2.2.size ?_ | refine wp_append_rep _ _ (by rfl) w.heap.size v S y6.heap.size c (fa, fb, fc) (by rfl) HGy8.out.1.own HN.out (by rfl) HPy8.out (by have := HSL.out; omega) HGy8.out.2.2.size ?_
          intro v' y9 ho hg hv'
          obtain ⟨g5, l5, cap5, rfl⟩ := ho.is hv'
          have HV' : Hid ((Value.slice (some ⟨g5, 0, none⟩) l5 cap5) ≠ Value.slice none 0 0) := hv'
          have HTA : Hid (Thr y9 ob fa fb fc) := HGy8.out.2.1.kept3 hg HNO.out.1
          have HW : Hid (Vr y9 sb v) := HGy8.out.1.var.kept hg HGy8.out.1.ne.2.2
          have HF : Hid (Srs w.heap.size sb mb rb N D (leftO left (fa, fb, fc)) cnt4 (Value.slice (some ⟨g5, 0, none⟩) l5 cap5) (S ++ List.replicate c (fa, fb, fc)) (y9.setCell ⟨sb, 0, none⟩ (Value.slice (some ⟨g5, 0, none⟩) l5 cap5)) ∧ Below w.heap.size w (y9.setCell ⟨sb, 0, none⟩ (Value.slice (some ⟨g5, 0, none⟩) l5 cap5))) := ⟨HGy8.out.1.put ho hg, (HGy8.out.2.2.grown hg HGy8.out.2.2.size (fun k hk => (HGy8.out.1.own.low k hk).1)).grown (grown_set14 _ _ _) (Nat.le_trans HGy8.out.2.2.size hg.size) (fun k hk => by cases hk; exact LOWS)⟩
          clear ho hg hv'
          refine hK.out _ _ ?_ (fun hHeld => ?_)
          · exact HTA.out
          clear hK K
          try simp only [Act.put, List.setIfInBounds_toArray, List.set_cons_zero, List.set_cons_succ]
          refine wpAnyH_ready (rs := [6]) (by kernel_rfl) (by simp) ?_
          refine AllReadyH.cons (o := { dst := none, op := Op.store 22 (Operand.tmp 3) (Operand.tmp 22), type := 0, pos := _, after := _, guard := none }) rfl (fun K hK => ?_) AllReadyH.nil
          have hc0 := HW.out.cell.1
          have hc1 := HW.out.cell.2
          go_simp
          clear hc0 hc1
          refine hK.out _ _ ?_ (fun hHeld => ?_)
          · exact HTA.out.set14 HNO.out.2
          clear hK K
          try simp only [Act.put, List.setIfInBounds_toArray, List.set_cons_zero, List.set_cons_succ]
          refine wpAnyH_done (by kernel_rfl) ?_ _
          go_wp2_with fail
          go_roundw
          case rel => exact ⟨_, cnt4, (Value.slice (some ⟨g5, 0, none⟩) l5 cap5), _, HF.out.1, HC4.out, HV'.out, HF.out.2⟩
          case measure => rw [HF.out.1.rng.left_eq, HMS.out]; exact HLT.out
        · go_simp
          refine (rep14_any y0.heap.size c (fa, fb, fc) _ HTy6.out (by omega) (by omega)).mono ?_
          rintro e y11 ⟨rfl, hcly11, hby11⟩
          have HGy11 : Hid (Srs w.heap.size sb mb rb N D (leftO left (fa, fb, fc)) cnt4 v S y11 ∧ Thr y11 ob fa fb fc ∧ Below w.heap.size w y11) := HLQ.out _ _ HGy6.out hby11
          have HPy11 : Hid (∀ t, t < c * 3 → y11.cell? ⟨y6.heap.size, t, none⟩ = (encO (fa, fb, fc))[t % 3]?) := hcly11
          clear hcly11 hby11
          go_wp2_with fail
          refine hK.out _ _ ?_ (fun hHeld => ?_)
          · exact HGy11.out.2.1
          clear hK K
          try simp only [Act.put, List.setIfInBounds_toArray, List.set_cons_zero, List.set_cons_succ]
          refine wpAnyH_ready (rs := [0]) (by kernel_rfl) (by simp) ?_
          refine AllReadyH.cons (o := { dst := some 17, op := Op.load 22 (Operand.tmp 3), type := 22, pos := _, after := _, guard := none }) rfl (fun K hK => ?_) AllReadyH.nil
          have hc0 := HGy11.out.1.var.cell.1
          go_simp
          clear hc0
          refine hK.out _ _ ?_ (fun hHeld => ?_)
          · exact HGy11.out.2.1
          clear hK K
          try simp only [Act.put, List.setIfInBounds_toArray, List.set_cons_zero, List.set_cons_succ]
          refine wpAnyH_ready (rs := [5]) (by kernel_rfl) (by simp) ?_
          refine AllReadyH.cons (o := { dst := some 22, op := Op.call { callee := Callee.builtin Builtin.append, args := #[Operand.tmp 17, Operand.tmp 21], argTypes := #[22, 22] }, type := 22, pos := _, after := _, guard := none }) rfl (fun K hK => ?_) AllReadyH.nil
          first | refine step_append_rep (by rfl) _ _ (by rfl) w.heap.size v S y6.heap.size c (fa, fb, fc) (by rfl) HGy11.out.1.own HN.out (by rfl) HPy11.out (by have := HSL.out; omega) HGy11.out.2.2.size ?_ | refine wp_append_rep _ _ (by rfl) w.heap.size v S y6.heap.size c (fa, fb, fc) (by rfl) HGy11.out.1.own HN.out (by rfl) HPy11.out (by have := HSL.out; omega) HGy11.out.2.2.size ?_
          intro v' y13 ho hg hv'
          obtain ⟨g5, l5, cap5, rfl⟩ := ho.is hv'
          have HV' : Hid ((Value.slice (some ⟨g5, 0, none⟩) l5 cap5) ≠ Value.slice none 0 0) := hv'
          have HTA : Hid (Thr y13 ob fa fb fc) := HGy11.out.2.1.kept3 hg HNO.out.1
          have HW : Hid (Vr y13 sb v) := HGy11.out.1.var.kept hg HGy11.out.1.ne.2.2
          have HF : Hid (Srs w.heap.size sb mb rb N D (leftO left (fa, fb, fc)) cnt4 (Value.slice (some ⟨g5, 0, none⟩) l5 cap5) (S ++ List.replicate c (fa, fb, fc)) (y13.setCell ⟨sb, 0, none⟩ (Value.slice (some ⟨g5, 0, none⟩) l5 cap5)) ∧ Below w.heap.size w (y13.setCell ⟨sb, 0, none⟩ (Value.slice (some ⟨g5, 0, none⟩) l5 cap5))) := ⟨HGy11.out.1.put ho hg, (HGy11.out.2.2.grown hg HGy11.out.2.2.size (fun k hk => (HGy11.out.1.own.low k hk).1)).grown (grown_set14 _ _ _) (Nat.le_trans HGy11.out.2.2.size hg.size) (fun k hk => by cases hk; exact LOWS)⟩
          clear ho hg hv'
          refine hK.out _ _ ?_ (fun hHeld => ?_)
          · exact HTA.out
          clear hK K
          try simp only [Act.put, List.setIfInBounds_toArray, List.set_cons_zero, List.set_cons_succ]
          refine wpAnyH_ready (rs := [6]) (by kernel_rfl) (by simp) ?_
          refine AllReadyH.cons (o := { dst := none, op := Op.store 22 (Operand.tmp 3) (Operand.tmp 22), type := 0, pos := _, after := _, guard := none }) rfl (fun K hK => ?_) AllReadyH.nil
          have hc0 := HW.out.cell.1
          have hc1 := HW.out.cell.2
          go_simp
          clear hc0 hc1
          refine hK.out _ _ ?_ (fun hHeld => ?_)
          · exact HTA.out.set14 HNO.out.2
          clear hK K
          try simp only [Act.put, List.setIfInBounds_toArray, List.set_cons_zero, List.set_cons_succ]
          refine wpAnyH_done (by kernel_rfl) ?_ _
          go_wp2_with fail
          go_roundw
          case rel => exact ⟨_, cnt4, (Value.slice (some ⟨g5, 0, none⟩) l5 cap5), _, HF.out.1, HC4.out, HV'.out, HF.out.2⟩
          case measure => rw [HF.out.1.rng.left_eq, HMS.out]; exact HLT.out
end Go.Proofs.Ytcdkocdjbpebpaa
/- Lists that are sorted, with as many of each, are one; the document's Same. -/
namespace Go.Proofs.Ytcdkocdjbpebpaa
open Go.RowKit

def SrtL (g : Nat → Int × Int × Int) (n : Nat) : Prop := ∀ i j, i < j → j < n → ltO (g j) (g i) = false
theorem lstO_get (f : Nat → Int × Int × Int) (n i : Nat) (h : i < n) : (lstO f n)[i]? = some (f i) := by
  unfold lstO; simp [h]
theorem sorted_one {g h : Nat → Int × Int × Int} {n : Nat} (hg : SrtL g n) (hh : SrtL h n) (hc : ∀ x, cntO g n x = cntO h n x) : ∀ i, i < n → g i = h i := by
  have hp : (lstO g n).Perm (lstO h n) := by
    rw [List.perm_iff_count]; intro x; rw [lstO_count, lstO_count, hc]
  have pw : ∀ f : Nat → Int × Int × Int, SrtL f n → (lstO f n).Pairwise (fun x y => ltO y x = false) := fun f hf => by
    rw [List.pairwise_iff_getElem]
    intro i j hi hj hij
    simp [lstO] at hi hj ⊢
    exact hf i j hij hj
  have he : lstO g n = lstO h n := List.Perm.eq_of_pairwise (le := fun x y => ltO y x = false) (fun a b _ _ h1 h2 => ltO_same h2 h1) (pw g hg) (pw h hh) hp
  intro i hi
  have := lstO_get g n i hi
  rw [he, lstO_get h n i hi] at this
  exact (Option.some.inj this).symm
theorem SrtL.first {g : Nat → Int × Int × Int} {n : Nat} (h : SrtL g n) (hn : 0 < n) : IsFst g n 0 :=
  ⟨hn, fun t ht => by
    by_cases c : t = 0
    · subst c; exact swo_ltO.irrefl _
    · exact h 0 t (by omega) ht, fun t ht => by omega⟩
theorem first_one {f g : Nat → Int × Int × Int} {n k : Nat} (hg : SrtL g n) (hc : ∀ x, cntO g n x = cntO f n x) (hk : IsFst f n k) : g 0 = f k := by
  have hn : 0 < n := by have := hk.1; omega
  obtain ⟨i, hi, hgi⟩ := cntO_pos (f := g) (n := n) (x := f k) (by rw [hc]; exact cntO_at hk.1)
  obtain ⟨j, hj, hfj⟩ := cntO_pos (f := f) (n := n) (x := g 0) (by rw [← hc]; exact cntO_at hn)
  have h1 := (hg.first hn).2.1 i hi
  have h2 := hk.2.1 j hj
  rw [hgi] at h1
  rw [hfj] at h2
  exact ltO_same h2 h1

set_option maxHeartbeats 2000000 in
set_option maxRecDepth 100000 in
theorem same14_any (n : Nat) (f g : Nat → Int × Int × Int) (v v' : Value) (w : World) (h : Ops w v n f) (h' : Ops w v' n g) (he : ∀ i, i < n → f i = g i) (hn : n ≤ 1000) :
    Calls Try.prog 13 #[v, v'] w fun r w' => r = .returned (.bool true) ∧ Below w.heap.size w w' := by
  have HEQ : Hid (∀ i, i < n → f i = g i) := he
  clear he
  obtain ⟨a, cap, rfl, h1, h2, _, h3⟩ := h
  obtain ⟨a', cap', rfl, h1', h2', _, h3'⟩ := h'
  go_enter Try.func13, Try.ntmps13
  go_wp2_with fail
  go_loopw [5] (fun i wr => ∃ (j : Nat), j ≤ n ∧ i = .int .i64 j ∧ Below w.heap.size w wr) (fun i _ => ((n : Int) - intOf i).toNat)
  case atStart => exact ⟨0, by omega, rfl, Below.refl _ _⟩
  case round =>
    obtain ⟨j, hj, rfl, hbw⟩ := hrel
    by_cases hlt : (j : Int) < n
    · obtain ⟨bk, o, rfl, h4⟩ := h3 (by omega)
      obtain ⟨bk', o', rfl, h4'⟩ := h3' (by omega)
      obtain ⟨c0, c1, c2⟩ := h4 j (by omega)
      obtain ⟨d0, d1, d2⟩ := h4' j (by omega)
      rw [← HEQ.out j (by omega)] at d0 d1 d2
      replace c0 := cell_later hbw c0
      replace c1 := cell_later hbw c1
      replace c2 := cell_later hbw c2
      replace d0 := cell_later hbw d0
      replace d1 := cell_later hbw d1
      replace d2 := cell_later hbw d2
      clear h3 h3' h4 h4'
      obtain ⟨⟨cj, tj, xj⟩, hf⟩ : ∃ y, f j = y := ⟨_, rfl⟩
      rw [hf] at c0 c1 c2 d0 d1 d2
      clear hf
      simp only at c0 c1 c2 d0 d1 d2
      have hN : ∀ w, (binOp .neq 24 (.agg #[.int .i64 cj, .int .i64 tj, .int .i64 xj]) (.agg #[.int .i64 cj, .int .i64 tj, .int .i64 xj])).run Try.prog w = .ok (.bool false) w := fun w => (op_neq cj tj xj cj tj xj w).trans (by rw [eqO_self]; rfl)
      go_wp2_with fail
      go_region
      all_goals
        go_wp2_with fail
        go_roundw
        case rel => exact ⟨j + 1, by omega, by go_num, hbw.drew⟩
        case measure => simp [intOf]; omega
    · go_wp2
      go_ret
      exact ⟨rfl, hbw⟩
end Go.Proofs.Ytcdkocdjbpebpaa
/- OptionFirst: the first one is the first one when they are sorted, as often as it is there. -/
namespace Go.Proofs.Ytcdkocdjbpebpaa
open Go.RowKit

theorem wf_same {f g : Nat → Int × Int × Int} {n : Nat} (hc : ∀ x, cntO g n x = cntO f n x) (hf : ∀ i, i < n → wfO (f i)) : ∀ i, i < n → wfO (g i) := fun i hi => by
  obtain ⟨j, hj, e⟩ := cntO_pos (f := f) (n := n) (x := g i) (by rw [← hc]; exact cntO_at hi)
  rw [← e]; exact hf j hj

set_option maxHeartbeats 4000000 in
set_option maxRecDepth 100000 in
theorem law_ofirst (n : Nat) (f : Nat → Int × Int × Int) (v : Value) (w : World) (h : Ops w v n f) (hf : ∀ i, i < n → wfO (f i)) :
    Calls Try.prog 5 #[v] w fun e w' => e = .returned (.bool true) ∧ Below w.heap.size w w' := by
  have HO : Hid (Ops w v n f) := h
  have HWF : Hid (∀ i, i < n → wfO (f i)) := hf
  clear hf
  obtain ⟨a, cap, rfl, h1, h2, h0, h3⟩ := h
  go_enter Try.func5, Try.ntmps5
  go_wp2_with fail
  refine (awake14_any _).mono ?_
  rintro e w1 ⟨rfl, hb1⟩
  have HB1 : Hid (Below w.heap.size w w1) := hb1
  clear hb1
  by_cases h100 : n ≤ 100
  rotate_left
  · have hgt : (100 : Int) < n := by omega
    go_wp2
    go_ret
    exact ⟨rfl, HB1.out⟩
  have hgt : ¬ (100 : Int) < n := by omega
  go_wp2_with fail
  refine (sort14_any n f _ _ (HO.out.later HB1.out) HWF.out (by omega)).mono ?_
  rintro e w2 ⟨vs, g, rfl, hos, hcn, hsr, hb2⟩
  have HOS : Hid (Ops w2 vs n g) := hos
  have HCN : Hid (∀ x, cntO g n x = cntO f n x) := hcn
  have HSR : Hid (SrtL g n) := hsr
  have HB2 : Hid (Below w.heap.size w w2) := HB1.out.trans (hb2.mono HB1.out.size)
  clear hcn hsr hb2
  obtain ⟨ads, caps, rfl, hs1, hs2, hs0, hs3⟩ := hos
  go_wp2_with fail
  refine (first14_any n f _ _ (HO.out.later HB2.out) (by omega)).mono ?_
  rintro e w3 ⟨r, rfl, hr, hb3⟩
  have HB3 : Hid (Below w.heap.size w w3) := HB2.out.trans (hb3.mono HB2.out.size)
  have HB23 : Hid (Below w2.heap.size w2 w3) := hb3
  clear hb3
  rcases hr with ⟨rfl, rfl⟩ | ⟨k, rfl, hk⟩
  · go_wp2
    go_ret
    exact ⟨rfl, HB3.out⟩
  have HK : Hid (IsFst f n k) := hk
  have hkn := hk.1
  clear hk
  obtain ⟨b, o, rfl, h4⟩ := h3 (by omega)
  obtain ⟨bs, os, rfl, hs4⟩ := hs3 (by omega)
  have HF4 : Hid (∀ i, i < n → ∀ y, Below w3.heap.size w3 y → y.cell? ⟨b, o + i * 3, none⟩ = some (.int .i64 (f i).1) ∧ y.cell? ⟨b, o + i * 3 + 1, none⟩ = some (.int .i64 (f i).2.1) ∧ y.cell? ⟨b, o + i * 3 + 2, none⟩ = some (.int .i64 (f i).2.2)) := fun i hi y hy =>
    have hb := HB3.out.trans (hy.mono HB3.out.size)
    ⟨cell_later hb (h4 i hi).1, cell_later hb (h4 i hi).2.1, cell_later hb (h4 i hi).2.2⟩
  have HG4 : Hid (∀ i, i < n → ∀ y, Below w3.heap.size w3 y → y.cell? ⟨bs, os + i * 3, none⟩ = some (.int .i64 (g i).1) ∧ y.cell? ⟨bs, os + i * 3 + 1, none⟩ = some (.int .i64 (g i).2.1) ∧ y.cell? ⟨bs, os + i * 3 + 2, none⟩ = some (.int .i64 (g i).2.2)) := fun i hi y hy =>
    have hb := HB23.out.trans (hy.mono HB23.out.size)
    ⟨cell_later hb (hs4 i hi).1, cell_later hb (hs4 i hi).2.1, cell_later hb (hs4 i hi).2.2⟩
  clear h3 h4 hs3 hs4
  have hG0 : g 0 = f k := first_one HSR.out HCN.out HK.out
  have hfk := HF4.out k hkn
  have hg0 := HG4.out 0 (by omega)
  rw [hG0] at hg0
  have HX : Hid (∀ i, f i = f k → f i = f k) := fun _ h => h
  obtain ⟨X, hX⟩ : ∃ X, f k = X := ⟨_, rfl⟩
  have HXK : Hid (f k = X) := hX
  rw [hX] at hfk hg0
  obtain ⟨p, q, t⟩ := X
  have MK : Hid (∀ y, Below w3.heap.size w3 y → (y.cell? ⟨b, o + k * 3, none⟩ = some (.int .i64 p) ∧ y.cell? ⟨b, o + k * 3 + 1, none⟩ = some (.int .i64 q) ∧ y.cell? ⟨b, o + k * 3 + 2, none⟩ = some (.int .i64 t) ∧ y.cell? ⟨bs, os, none⟩ = some (.int .i64 p) ∧ y.cell? ⟨bs, os + 1, none⟩ = some (.int .i64 q) ∧ y.cell? ⟨bs, os + 2, none⟩ = some (.int .i64 t)) ∧ Below w3.heap.size w3 y) := fun y hy => ⟨⟨(hfk y hy).1, (hfk y hy).2.1, (hfk y hy).2.2, (by simpa using (hg0 y hy).1), (by simpa using (hg0 y hy).2.1), (by simpa using (hg0 y hy).2.2)⟩, hy⟩
  have HF1 : Hid (∀ y, Below w3.heap.size w3 y → Calls Try.prog 16 #[.slice (some ⟨bs, os, none⟩) n caps] y fun e y' => e = .returned (.int .i64 0) ∧ Below y.heap.size y y') := fun y hy => by
    refine (first14_any n g _ y (HOS.out.later (HB23.out.trans (hy.mono HB23.out.size))) (by omega)).mono ?_
    rintro e y' ⟨r, rfl, ⟨h0, _⟩ | ⟨k', rfl, hk'⟩, hb'⟩
    · omega
    · rw [hk'.unique (HSR.out.first (by omega))]; exact ⟨rfl, hb'⟩
  have hN : ∀ w, (binOp .neq 24 (.agg #[.int .i64 p, .int .i64 q, .int .i64 t]) (.agg #[.int .i64 p, .int .i64 q, .int .i64 t])).run Try.prog w = .ok (.bool false) w := fun w => (op_neq p q t p q t w).trans (by rw [eqO_self]; rfl)
  clear hX hG0 hfk hg0 HX
  have hn0 : ¬ n = 0 := by omega
  have hn0' : ((n : Int) == 0) = false := by simp; omega
  have hk0 : decide ((k : Int) < 0) = false := decide_eq_false (by omega)
  have hkn' : (k : Int) < n := by omega
  have hkn2 : decide ((n : Int) ≤ k) = false := decide_eq_false (by omega)
  have hkn3 : decide (n ≤ k) = false := decide_eq_false (by omega)
  have hpos : (0 : Int) < n := by omega
  have hposn : 0 < n := by omega
  go_wp2_with fail
  go_region_held3 (fun y => (y.cell? ⟨b, o + k * 3, none⟩ = some (.int .i64 p) ∧ y.cell? ⟨b, o + k * 3 + 1, none⟩ = some (.int .i64 q) ∧ y.cell? ⟨b, o + k * 3 + 2, none⟩ = some (.int .i64 t) ∧ y.cell? ⟨bs, os, none⟩ = some (.int .i64 p) ∧ y.cell? ⟨bs, os + 1, none⟩ = some (.int .i64 q) ∧ y.cell? ⟨bs, os + 2, none⟩ = some (.int .i64 t)) ∧ Below w3.heap.size w3 y)
    (first | exact MK.out _ (bstep (by assumption) (sBel (by assumption))) | exact MK.out _ (Below.refl _ _).drew)
    (first | (go_at_call 16; refine (HF1.out _ (sBel (by assumption))).mono ?_; rintro e w4 ⟨rfl, hb4⟩))
  have HB4 : Hid (Below w3.heap.size w3 w4) := sBel (by assumption)
  clear hb4 hN hn0 hn0' hk0 hkn2 hkn3
  go_wp2_with fail
  go_loopw [6, 7, 8] (fun va vb vi wr => ∃ (j ca cb : Nat), va = .int .i64 ca ∧ vb = .int .i64 cb ∧ vi = .int .i64 j ∧ j ≤ n ∧ ca ≤ j ∧ cb ≤ j ∧ Hid (ca = cntO f j (p, q, t) ∧ cb = cntO g j (p, q, t)) ∧ Below w3.heap.size w3 wr) (fun _ _ vi _ => ((n : Int) - intOf vi).toNat)
  case atStart => exact ⟨0, 0, 0, rfl, rfl, rfl, by omega, by omega, by omega, ⟨rfl, rfl⟩, HB4.out⟩
  case round =>
    clear HB4
    obtain ⟨j, ca, cb, rfl, rfl, rfl, hj, hca, hcb, HC, hbw⟩ := hrel
    by_cases hlt : j < n
    · have hlt' : (j : Int) < n := by omega
      have hfj := HF4.out j hlt wr hbw
      have hgj := HG4.out j hlt wr hbw
      have hx := (MK.out wr hbw).1
      obtain ⟨⟨fa, fb, fc⟩, hfx⟩ : ∃ y, f j = y := ⟨_, rfl⟩
      obtain ⟨⟨ga, gb, gc⟩, hgx⟩ : ∃ y, g j = y := ⟨_, rfl⟩
      have HFX : Hid (f j = (fa, fb, fc)) := hfx
      have HGX : Hid (g j = (ga, gb, gc)) := hgx
      rw [hfx] at hfj
      rw [hgx] at hgj
      clear hfx hgx
      obtain ⟨c0, c1, c2⟩ := hfj
      obtain ⟨d0, d1, d2⟩ := hgj
      obtain ⟨x0, x1, x2, hHeld⟩ := hx
      simp only at c0 c1 c2 d0 d1 d2
      obtain ⟨e1, he1⟩ : ∃ e, eqO (fa, fb, fc) (p, q, t) = e := ⟨_, rfl⟩
      obtain ⟨e2, he2⟩ : ∃ e, eqO (ga, gb, gc) (p, q, t) = e := ⟨_, rfl⟩
      have hE1 : ∀ w, (binOp .eql 24 (.agg #[.int .i64 fa, .int .i64 fb, .int .i64 fc]) (.agg #[.int .i64 p, .int .i64 q, .int .i64 t])).run Try.prog w = .ok (.bool e1) w := fun w => (op_eql fa fb fc p q t w).trans (by rw [he1])
      have hE2 : ∀ w, (binOp .eql 24 (.agg #[.int .i64 ga, .int .i64 gb, .int .i64 gc]) (.agg #[.int .i64 p, .int .i64 q, .int .i64 t])).run Try.prog w = .ok (.bool e2) w := fun w => (op_eql ga gb gc p q t w).trans (by rw [he2])
      have HN : Hid ((∀ w, w = ca + (if e1 = true then 1 else 0) → w = cntO f (j + 1) (p, q, t)) ∧ ∀ w, w = cb + (if e2 = true then 1 else 0) → w = cntO g (j + 1) (p, q, t)) := by
        refine ⟨fun w hw => ?_, fun w hw => ?_⟩
        · rw [hw, HC.out.1]; unfold cntO; rw [HFX.out, ← he1]
          by_cases c : (fa, fb, fc) = (p, q, t)
          · rw [if_pos c, if_pos (eqO_iff.2 c)]; cases j <;> rfl
          · rw [if_neg c, if_neg (fun h => c (eqO_iff.1 h))]; cases j <;> rfl
        · rw [hw, HC.out.2]; unfold cntO; rw [HGX.out, ← he2]
          by_cases c : (ga, gb, gc) = (p, q, t)
          · rw [if_pos c, if_pos (eqO_iff.2 c)]; cases j <;> rfl
          · rw [if_neg c, if_neg (fun h => c (eqO_iff.1 h))]; cases j <;> rfl
      clear he1 he2 HC
      have hwa : IntKind.i64.wrap ((ca : Int) + 1) = (ca : Int) + 1 := by rw [IntKind.wrap_i64]; omega
      have hwb : IntKind.i64.wrap ((cb : Int) + 1) = (cb : Int) + 1 := by rw [IntKind.wrap_i64]; omega
      have HBW : Hid (Below w3.heap.size w3 wr.drew.drew) := hbw.drew.drew
      cases e1
      · cases e2
        · go_wp2_with fail
          go_region
          go_wp2_with fail
          go_region
          go_wp2_with fail
          generalize wr.drew.drew = W at *
          by_cases hj0 : j = 0
          · subst hj0
            refine wp_region_held_drew (S := fun _ : World => True) (by kernel_rfl) ?_ (fun hHeld => ?_)
            · trivial
            refine wpAnyH_take (i := 0) (oi := { dst := some 90, op := Op.move (Operand.tmp 8), type := 3, pos := _, after := _, guard := none }) (v := ?_) rfl (by kernel_rfl) (by kernel_rfl) (by kernel_rfl) (fun _ _ _ h => h) (Or.inl ⟨by rfl, ?_⟩) (by assumption) ?_
            rotate_left
            · intro wS hSw; (try dsimp only at hSw); go_simp; first | done | with_reducible rfl
            try simp only [Act.put, List.setIfInBounds_toArray, List.set_cons_zero, List.set_cons_succ]
            refine wpAnyH_take (i := 1) (oi := { dst := some 91, op := Op.binOp BinOp.gtr 3 (Operand.tmp 90) (Operand.const (Value.int IntKind.i64 0)) 3, type := 4, pos := _, after := _, guard := none }) (v := ?_) rfl (by kernel_rfl) (by kernel_rfl) (by kernel_rfl) (fun _ _ _ h => h) (Or.inl ⟨by rfl, ?_⟩) (by assumption) ?_
            rotate_left
            · intro wS hSw; (try dsimp only at hSw); go_simp; first | done | with_reducible rfl
            try simp only [Act.put, List.setIfInBounds_toArray, List.set_cons_zero, List.set_cons_succ]
            refine wpAnyH_take (i := 2) (oi := { dst := some 92, op := Op.move (Operand.tmp 91), type := 4, pos := _, after := _, guard := none }) (v := ?_) rfl (by kernel_rfl) (by kernel_rfl) (by kernel_rfl) (fun _ _ _ h => h) (Or.inl ⟨by rfl, ?_⟩) (by assumption) ?_
            rotate_left
            · intro wS hSw; (try dsimp only at hSw); go_simp; first | done | with_reducible rfl
            try simp only [Act.put, List.setIfInBounds_toArray, List.set_cons_zero, List.set_cons_succ]
            refine wpAnyH_take (i := 3) (oi := { dst := some 93, op := Op.move (Operand.tmp 4), type := 22, pos := _, after := _, guard := some (2, true) }) (v := undef) rfl (by kernel_rfl) (by kernel_rfl) (by kernel_rfl) (fun _ _ _ h => h) (Or.inr ⟨by rfl, rfl⟩) (by assumption) ?_
            try simp only [Act.put, List.setIfInBounds_toArray, List.set_cons_zero, List.set_cons_succ]
            refine wpAnyH_take (i := 4) (oi := { dst := some 94, op := Op.move (Operand.tmp 8), type := 3, pos := _, after := _, guard := some (2, true) }) (v := undef) rfl (by kernel_rfl) (by kernel_rfl) (by kernel_rfl) (fun _ _ _ h => h) (Or.inr ⟨by rfl, rfl⟩) (by assumption) ?_
            try simp only [Act.put, List.setIfInBounds_toArray, List.set_cons_zero, List.set_cons_succ]
            refine wpAnyH_take (i := 5) (oi := { dst := some 95, op := Op.indexAddr 22 (Operand.tmp 93) (Operand.tmp 94), type := 0, pos := _, after := _, guard := some (2, true) }) (v := undef) rfl (by kernel_rfl) (by kernel_rfl) (by kernel_rfl) (fun _ _ _ h => h) (Or.inr ⟨by rfl, rfl⟩) (by assumption) ?_
            try simp only [Act.put, List.setIfInBounds_toArray, List.set_cons_zero, List.set_cons_succ]
            refine wpAnyH_take (i := 6) (oi := { dst := some 96, op := Op.load 24 (Operand.tmp 95), type := 24, pos := _, after := _, guard := some (2, true) }) (v := undef) rfl (by kernel_rfl) (by kernel_rfl) (by kernel_rfl) (fun _ _ _ h => h) (Or.inr ⟨by rfl, rfl⟩) (by assumption) ?_
            try simp only [Act.put, List.setIfInBounds_toArray, List.set_cons_zero, List.set_cons_succ]
            refine wpAnyH_take (i := 7) (oi := { dst := some 97, op := Op.move (Operand.tmp 4), type := 22, pos := _, after := _, guard := some (2, true) }) (v := undef) rfl (by kernel_rfl) (by kernel_rfl) (by kernel_rfl) (fun _ _ _ h => h) (Or.inr ⟨by rfl, rfl⟩) (by assumption) ?_
            try simp only [Act.put, List.setIfInBounds_toArray, List.set_cons_zero, List.set_cons_succ]
            refine wpAnyH_take (i := 8) (oi := { dst := some 98, op := Op.move (Operand.tmp 8), type := 3, pos := _, after := _, guard := some (2, true) }) (v := undef) rfl (by kernel_rfl) (by kernel_rfl) (by kernel_rfl) (fun _ _ _ h => h) (Or.inr ⟨by rfl, rfl⟩) (by assumption) ?_
            try simp only [Act.put, List.setIfInBounds_toArray, List.set_cons_zero, List.set_cons_succ]
            refine wpAnyH_take (i := 9) (oi := { dst := some 99, op := Op.binOp BinOp.sub 3 (Operand.tmp 98) (Operand.const (Value.int IntKind.i64 1)) 3, type := 3, pos := _, after := _, guard := some (2, true) }) (v := undef) rfl (by kernel_rfl) (by kernel_rfl) (by kernel_rfl) (fun _ _ _ h => h) (Or.inr ⟨by rfl, rfl⟩) (by assumption) ?_
            try simp only [Act.put, List.setIfInBounds_toArray, List.set_cons_zero, List.set_cons_succ]
            refine wpAnyH_take (i := 10) (oi := { dst := some 100, op := Op.indexAddr 22 (Operand.tmp 97) (Operand.tmp 99), type := 0, pos := _, after := _, guard := some (2, true) }) (v := undef) rfl (by kernel_rfl) (by kernel_rfl) (by kernel_rfl) (fun _ _ _ h => h) (Or.inr ⟨by rfl, rfl⟩) (by assumption) ?_
            try simp only [Act.put, List.setIfInBounds_toArray, List.set_cons_zero, List.set_cons_succ]
            refine wpAnyH_take (i := 11) (oi := { dst := some 101, op := Op.load 24 (Operand.tmp 100), type := 24, pos := _, after := _, guard := some (2, true) }) (v := undef) rfl (by kernel_rfl) (by kernel_rfl) (by kernel_rfl) (fun _ _ _ h => h) (Or.inr ⟨by rfl, rfl⟩) (by assumption) ?_
            try simp only [Act.put, List.setIfInBounds_toArray, List.set_cons_zero, List.set_cons_succ]
            refine wpAnyH_take (i := 12) (oi := { dst := some 102, op := Op.call { callee := Callee.value (Operand.func 11), args := #[Operand.tmp 96, Operand.tmp 101], argTypes := #[24, 24] }, type := 4, pos := _, after := _, guard := some (2, true) }) (v := undef) rfl (by kernel_rfl) (by kernel_rfl) (by kernel_rfl) (fun _ _ _ h => h) (Or.inr ⟨by rfl, rfl⟩) (by assumption) ?_
            try simp only [Act.put, List.setIfInBounds_toArray, List.set_cons_zero, List.set_cons_succ]
            refine wpAnyH_take (i := 13) (oi := { dst := some 103, op := Op.pick (Operand.tmp 92) (Operand.tmp 102) (Operand.const (Value.bool false)), type := 4, pos := _, after := _, guard := none }) (v := ?_) rfl (by kernel_rfl) (by kernel_rfl) (by kernel_rfl) (fun _ _ _ h => h) (Or.inl ⟨by rfl, ?_⟩) (by assumption) ?_
            rotate_left
            · intro wS hSw; (try dsimp only at hSw); go_simp; first | done | with_reducible rfl
            try simp only [Act.put, List.setIfInBounds_toArray, List.set_cons_zero, List.set_cons_succ]
            refine wpAnyH_done (by kernel_rfl) ?_ _
            go_wp2
            go_roundw
            case rel => exact ⟨1, ca, cb, by first | rfl | go_num, by first | rfl | go_num, by first | rfl | go_num, by omega, by omega, by omega, ⟨HN.out.1 _ (by simp), HN.out.2 _ (by simp)⟩, HBW.out.drew⟩
            case measure => simp [intOf]; omega
          · have hj1 : decide ((0 : Int) < j) = true := decide_eq_true (by omega)
            have hj2 : decide (0 < j) = true := decide_eq_true (by omega)
            obtain ⟨i, hi⟩ : ∃ i, j = i + 1 := ⟨j - 1, by omega⟩
            have hil : (i : Int) < n := by omega
            have hwj : IntKind.i64.wrap ((j : Int) - 1) = (i : Int) := by rw [IntKind.wrap_i64]; omega
            have hgi := HG4.out i (by omega)
            have hgj := HG4.out j hlt
            rw [HGX.out] at hgj
            have hl0 : ltO (g j) (g i) = false := HSR.out i j (by omega) hlt
            rw [HGX.out] at hl0
            obtain ⟨⟨ha, hb, hc⟩, hgx⟩ : ∃ y, g i = y := ⟨_, rfl⟩
            rw [hgx] at hgi hl0
            have HL0 : Hid (ltO (ga, gb, gc) (ha, hb, hc) = false) := hl0
            clear hgx hl0
            have HS : Hid (∀ y, Below w3.heap.size w3 y → (y.cell? ⟨bs, os + j * 3, none⟩ = some (.int .i64 ga) ∧ y.cell? ⟨bs, os + j * 3 + 1, none⟩ = some (.int .i64 gb) ∧ y.cell? ⟨bs, os + j * 3 + 2, none⟩ = some (.int .i64 gc) ∧ y.cell? ⟨bs, os + i * 3, none⟩ = some (.int .i64 ha) ∧ y.cell? ⟨bs, os + i * 3 + 1, none⟩ = some (.int .i64 hb) ∧ y.cell? ⟨bs, os + i * 3 + 2, none⟩ = some (.int .i64 hc)) ∧ Below w3.heap.size w3 y) := fun y hy => ⟨⟨(hgj y hy).1, (hgj y hy).2.1, (hgj y hy).2.2, (hgi y hy).1, (hgi y hy).2.1, (hgi y hy).2.2⟩, hy⟩
            clear hgi hgj hi hj0 hHeld
            go_region_held3 (fun y => (y.cell? ⟨bs, os + j * 3, none⟩ = some (.int .i64 ga) ∧ y.cell? ⟨bs, os + j * 3 + 1, none⟩ = some (.int .i64 gb) ∧ y.cell? ⟨bs, os + j * 3 + 2, none⟩ = some (.int .i64 gc) ∧ y.cell? ⟨bs, os + i * 3, none⟩ = some (.int .i64 ha) ∧ y.cell? ⟨bs, os + i * 3 + 1, none⟩ = some (.int .i64 hb) ∧ y.cell? ⟨bs, os + i * 3 + 2, none⟩ = some (.int .i64 hc)) ∧ Below w3.heap.size w3 y)
              (first | exact HS.out _ (bstep (by assumption) (sBel (by assumption))) | exact HS.out _ HBW.out.drew)
              (first | (go_at_call 11; refine (less14_any ga gb gc ha hb hc _).mono ?_; rintro e w7 ⟨rfl, hb7⟩; rw [HL0.out]))
            all_goals
              go_wp2
              go_roundw
              case rel => exact ⟨j + 1, ca, cb, by first | rfl | go_num, by first | rfl | go_num, by first | rfl | go_num, by omega, by omega, by omega, ⟨HN.out.1 _ (by simp), HN.out.2 _ (by simp)⟩, (sBel (by assumption))⟩
              case measure => simp [intOf]; omega
        · go_wp2_with fail
          go_region
          go_wp2_with fail
          go_region
          go_wp2_with fail
          generalize wr.drew.drew = W at *
          by_cases hj0 : j = 0
          · subst hj0
            refine wp_region_held_drew (S := fun _ : World => True) (by kernel_rfl) ?_ (fun hHeld => ?_)
            · trivial
            refine wpAnyH_take (i := 0) (oi := { dst := some 90, op := Op.move (Operand.tmp 8), type := 3, pos := _, after := _, guard := none }) (v := ?_) rfl (by kernel_rfl) (by kernel_rfl) (by kernel_rfl) (fun _ _ _ h => h) (Or.inl ⟨by rfl, ?_⟩) (by assumption) ?_
            rotate_left
            · intro wS hSw; (try dsimp only at hSw); go_simp; first | done | with_reducible rfl
            try simp only [Act.put, List.setIfInBounds_toArray, List.set_cons_zero, List.set_cons_succ]
            refine wpAnyH_take (i := 1) (oi := { dst := some 91, op := Op.binOp BinOp.gtr 3 (Operand.tmp 90) (Operand.const (Value.int IntKind.i64 0)) 3, type := 4, pos := _, after := _, guard := none }) (v := ?_) rfl (by kernel_rfl) (by kernel_rfl) (by kernel_rfl) (fun _ _ _ h => h) (Or.inl ⟨by rfl, ?_⟩) (by assumption) ?_
            rotate_left
            · intro wS hSw; (try dsimp only at hSw); go_simp; first | done | with_reducible rfl
            try simp only [Act.put, List.setIfInBounds_toArray, List.set_cons_zero, List.set_cons_succ]
            refine wpAnyH_take (i := 2) (oi := { dst := some 92, op := Op.move (Operand.tmp 91), type := 4, pos := _, after := _, guard := none }) (v := ?_) rfl (by kernel_rfl) (by kernel_rfl) (by kernel_rfl) (fun _ _ _ h => h) (Or.inl ⟨by rfl, ?_⟩) (by assumption) ?_
            rotate_left
            · intro wS hSw; (try dsimp only at hSw); go_simp; first | done | with_reducible rfl
            try simp only [Act.put, List.setIfInBounds_toArray, List.set_cons_zero, List.set_cons_succ]
            refine wpAnyH_take (i := 3) (oi := { dst := some 93, op := Op.move (Operand.tmp 4), type := 22, pos := _, after := _, guard := some (2, true) }) (v := undef) rfl (by kernel_rfl) (by kernel_rfl) (by kernel_rfl) (fun _ _ _ h => h) (Or.inr ⟨by rfl, rfl⟩) (by assumption) ?_
            try simp only [Act.put, List.setIfInBounds_toArray, List.set_cons_zero, List.set_cons_succ]
            refine wpAnyH_take (i := 4) (oi := { dst := some 94, op := Op.move (Operand.tmp 8), type := 3, pos := _, after := _, guard := some (2, true) }) (v := undef) rfl (by kernel_rfl) (by kernel_rfl) (by kernel_rfl) (fun _ _ _ h => h) (Or.inr ⟨by rfl, rfl⟩) (by assumption) ?_
            try simp only [Act.put, List.setIfInBounds_toArray, List.set_cons_zero, List.set_cons_succ]
            refine wpAnyH_take (i := 5) (oi := { dst := some 95, op := Op.indexAddr 22 (Operand.tmp 93) (Operand.tmp 94), type := 0, pos := _, after := _, guard := some (2, true) }) (v := undef) rfl (by kernel_rfl) (by kernel_rfl) (by kernel_rfl) (fun _ _ _ h => h) (Or.inr ⟨by rfl, rfl⟩) (by assumption) ?_
            try simp only [Act.put, List.setIfInBounds_toArray, List.set_cons_zero, List.set_cons_succ]
            refine wpAnyH_take (i := 6) (oi := { dst := some 96, op := Op.load 24 (Operand.tmp 95), type := 24, pos := _, after := _, guard := some (2, true) }) (v := undef) rfl (by kernel_rfl) (by kernel_rfl) (by kernel_rfl) (fun _ _ _ h => h) (Or.inr ⟨by rfl, rfl⟩) (by assumption) ?_
            try simp only [Act.put, List.setIfInBounds_toArray, List.set_cons_zero, List.set_cons_succ]
            refine wpAnyH_take (i := 7) (oi := { dst := some 97, op := Op.move (Operand.tmp 4), type := 22, pos := _, after := _, guard := some (2, true) }) (v := undef) rfl (by kernel_rfl) (by kernel_rfl) (by kernel_rfl) (fun _ _ _ h => h) (Or.inr ⟨by rfl, rfl⟩) (by assumption) ?_
            try simp only [Act.put, List.setIfInBounds_toArray, List.set_cons_zero, List.set_cons_succ]
            refine wpAnyH_take (i := 8) (oi := { dst := some 98, op := Op.move (Operand.tmp 8), type := 3, pos := _, after := _, guard := some (2, true) }) (v := undef) rfl (by kernel_rfl) (by kernel_rfl) (by kernel_rfl) (fun _ _ _ h => h) (Or.inr ⟨by rfl, rfl⟩) (by assumption) ?_
            try simp only [Act.put, List.setIfInBounds_toArray, List.set_cons_zero, List.set_cons_succ]
            refine wpAnyH_take (i := 9) (oi := { dst := some 99, op := Op.binOp BinOp.sub 3 (Operand.tmp 98) (Operand.const (Value.int IntKind.i64 1)) 3, type := 3, pos := _, after := _, guard := some (2, true) }) (v := undef) rfl (by kernel_rfl) (by kernel_rfl) (by kernel_rfl) (fun _ _ _ h => h) (Or.inr ⟨by rfl, rfl⟩) (by assumption) ?_
            try simp only [Act.put, List.setIfInBounds_toArray, List.set_cons_zero, List.set_cons_succ]
            refine wpAnyH_take (i := 10) (oi := { dst := some 100, op := Op.indexAddr 22 (Operand.tmp 97) (Operand.tmp 99), type := 0, pos := _, after := _, guard := some (2, true) }) (v := undef) rfl (by kernel_rfl) (by kernel_rfl) (by kernel_rfl) (fun _ _ _ h => h) (Or.inr ⟨by rfl, rfl⟩) (by assumption) ?_
            try simp only [Act.put, List.setIfInBounds_toArray, List.set_cons_zero, List.set_cons_succ]
            refine wpAnyH_take (i := 11) (oi := { dst := some 101, op := Op.load 24 (Operand.tmp 100), type := 24, pos := _, after := _, guard := some (2, true) }) (v := undef) rfl (by kernel_rfl) (by kernel_rfl) (by kernel_rfl) (fun _ _ _ h => h) (Or.inr ⟨by rfl, rfl⟩) (by assumption) ?_
            try simp only [Act.put, List.setIfInBounds_toArray, List.set_cons_zero, List.set_cons_succ]
            refine wpAnyH_take (i := 12) (oi := { dst := some 102, op := Op.call { callee := Callee.value (Operand.func 11), args := #[Operand.tmp 96, Operand.tmp 101], argTypes := #[24, 24] }, type := 4, pos := _, after := _, guard := some (2, true) }) (v := undef) rfl (by kernel_rfl) (by kernel_rfl) (by kernel_rfl) (fun _ _ _ h => h) (Or.inr ⟨by rfl, rfl⟩) (by assumption) ?_
            try simp only [Act.put, List.setIfInBounds_toArray, List.set_cons_zero, List.set_cons_succ]
            refine wpAnyH_take (i := 13) (oi := { dst := some 103, op := Op.pick (Operand.tmp 92) (Operand.tmp 102) (Operand.const (Value.bool false)), type := 4, pos := _, after := _, guard := none }) (v := ?_) rfl (by kernel_rfl) (by kernel_rfl) (by kernel_rfl) (fun _ _ _ h => h) (Or.inl ⟨by rfl, ?_⟩) (by assumption) ?_
            rotate_left
            · intro wS hSw; (try dsimp only at hSw); go_simp; first | done | with_reducible rfl
            try simp only [Act.put, List.setIfInBounds_toArray, List.set_cons_zero, List.set_cons_succ]
            refine wpAnyH_done (by kernel_rfl) ?_ _
            go_wp2
            go_roundw
            case rel => exact ⟨1, ca, cb + 1, by first | rfl | go_num, by first | rfl | go_num, by first | rfl | go_num, by omega, by omega, by omega, ⟨HN.out.1 _ (by simp), HN.out.2 _ (by simp)⟩, HBW.out.drew⟩
            case measure => simp [intOf]; omega
          · have hj1 : decide ((0 : Int) < j) = true := decide_eq_true (by omega)
            have hj2 : decide (0 < j) = true := decide_eq_true (by omega)
            obtain ⟨i, hi⟩ : ∃ i, j = i + 1 := ⟨j - 1, by omega⟩
            have hil : (i : Int) < n := by omega
            have hwj : IntKind.i64.wrap ((j : Int) - 1) = (i : Int) := by rw [IntKind.wrap_i64]; omega
            have hgi := HG4.out i (by omega)
            have hgj := HG4.out j hlt
            rw [HGX.out] at hgj
            have hl0 : ltO (g j) (g i) = false := HSR.out i j (by omega) hlt
            rw [HGX.out] at hl0
            obtain ⟨⟨ha, hb, hc⟩, hgx⟩ : ∃ y, g i = y := ⟨_, rfl⟩
            rw [hgx] at hgi hl0
            have HL0 : Hid (ltO (ga, gb, gc) (ha, hb, hc) = false) := hl0
            clear hgx hl0
            have HS : Hid (∀ y, Below w3.heap.size w3 y → (y.cell? ⟨bs, os + j * 3, none⟩ = some (.int .i64 ga) ∧ y.cell? ⟨bs, os + j * 3 + 1, none⟩ = some (.int .i64 gb) ∧ y.cell? ⟨bs, os + j * 3 + 2, none⟩ = some (.int .i64 gc) ∧ y.cell? ⟨bs, os + i * 3, none⟩ = some (.int .i64 ha) ∧ y.cell? ⟨bs, os + i * 3 + 1, none⟩ = some (.int .i64 hb) ∧ y.cell? ⟨bs, os + i * 3 + 2, none⟩ = some (.int .i64 hc)) ∧ Below w3.heap.size w3 y) := fun y hy => ⟨⟨(hgj y hy).1, (hgj y hy).2.1, (hgj y hy).2.2, (hgi y hy).1, (hgi y hy).2.1, (hgi y hy).2.2⟩, hy⟩
            clear hgi hgj hi hj0 hHeld
            go_region_held3 (fun y => (y.cell? ⟨bs, os + j * 3, none⟩ = some (.int .i64 ga) ∧ y.cell? ⟨bs, os + j * 3 + 1, none⟩ = some (.int .i64 gb) ∧ y.cell? ⟨bs, os + j * 3 + 2, none⟩ = some (.int .i64 gc) ∧ y.cell? ⟨bs, os + i * 3, none⟩ = some (.int .i64 ha) ∧ y.cell? ⟨bs, os + i * 3 + 1, none⟩ = some (.int .i64 hb) ∧ y.cell? ⟨bs, os + i * 3 + 2, none⟩ = some (.int .i64 hc)) ∧ Below w3.heap.size w3 y)
              (first | exact HS.out _ (bstep (by assumption) (sBel (by assumption))) | exact HS.out _ HBW.out.drew)
              (first | (go_at_call 11; refine (less14_any ga gb gc ha hb hc _).mono ?_; rintro e w7 ⟨rfl, hb7⟩; rw [HL0.out]))
            all_goals
              go_wp2
              go_roundw
              case rel => exact ⟨j + 1, ca, cb + 1, by first | rfl | go_num, by first | rfl | go_num, by first | rfl | go_num, by omega, by omega, by omega, ⟨HN.out.1 _ (by simp), HN.out.2 _ (by simp)⟩, (sBel (by assumption))⟩
              case measure => simp [intOf]; omega
      · cases e2
        · go_wp2_with fail
          go_region
          go_wp2_with fail
          go_region
          go_wp2_with fail
          generalize wr.drew.drew = W at *
          by_cases hj0 : j = 0
          · subst hj0
            refine wp_region_held_drew (S := fun _ : World => True) (by kernel_rfl) ?_ (fun hHeld => ?_)
            · trivial
            refine wpAnyH_take (i := 0) (oi := { dst := some 90, op := Op.move (Operand.tmp 8), type := 3, pos := _, after := _, guard := none }) (v := ?_) rfl (by kernel_rfl) (by kernel_rfl) (by kernel_rfl) (fun _ _ _ h => h) (Or.inl ⟨by rfl, ?_⟩) (by assumption) ?_
            rotate_left
            · intro wS hSw; (try dsimp only at hSw); go_simp; first | done | with_reducible rfl
            try simp only [Act.put, List.setIfInBounds_toArray, List.set_cons_zero, List.set_cons_succ]
            refine wpAnyH_take (i := 1) (oi := { dst := some 91, op := Op.binOp BinOp.gtr 3 (Operand.tmp 90) (Operand.const (Value.int IntKind.i64 0)) 3, type := 4, pos := _, after := _, guard := none }) (v := ?_) rfl (by kernel_rfl) (by kernel_rfl) (by kernel_rfl) (fun _ _ _ h => h) (Or.inl ⟨by rfl, ?_⟩) (by assumption) ?_
            rotate_left
            · intro wS hSw; (try dsimp only at hSw); go_simp; first | done | with_reducible rfl
            try simp only [Act.put, List.setIfInBounds_toArray, List.set_cons_zero, List.set_cons_succ]
            refine wpAnyH_take (i := 2) (oi := { dst := some 92, op := Op.move (Operand.tmp 91), type := 4, pos := _, after := _, guard := none }) (v := ?_) rfl (by kernel_rfl) (by kernel_rfl) (by kernel_rfl) (fun _ _ _ h => h) (Or.inl ⟨by rfl, ?_⟩) (by assumption) ?_
            rotate_left
            · intro wS hSw; (try dsimp only at hSw); go_simp; first | done | with_reducible rfl
            try simp only [Act.put, List.setIfInBounds_toArray, List.set_cons_zero, List.set_cons_succ]
            refine wpAnyH_take (i := 3) (oi := { dst := some 93, op := Op.move (Operand.tmp 4), type := 22, pos := _, after := _, guard := some (2, true) }) (v := undef) rfl (by kernel_rfl) (by kernel_rfl) (by kernel_rfl) (fun _ _ _ h => h) (Or.inr ⟨by rfl, rfl⟩) (by assumption) ?_
            try simp only [Act.put, List.setIfInBounds_toArray, List.set_cons_zero, List.set_cons_succ]
            refine wpAnyH_take (i := 4) (oi := { dst := some 94, op := Op.move (Operand.tmp 8), type := 3, pos := _, after := _, guard := some (2, true) }) (v := undef) rfl (by kernel_rfl) (by kernel_rfl) (by kernel_rfl) (fun _ _ _ h => h) (Or.inr ⟨by rfl, rfl⟩) (by assumption) ?_
            try simp only [Act.put, List.setIfInBounds_toArray, List.set_cons_zero, List.set_cons_succ]
            refine wpAnyH_take (i := 5) (oi := { dst := some 95, op := Op.indexAddr 22 (Operand.tmp 93) (Operand.tmp 94), type := 0, pos := _, after := _, guard := some (2, true) }) (v := undef) rfl (by kernel_rfl) (by kernel_rfl) (by kernel_rfl) (fun _ _ _ h => h) (Or.inr ⟨by rfl, rfl⟩) (by assumption) ?_
            try simp only [Act.put, List.setIfInBounds_toArray, List.set_cons_zero, List.set_cons_succ]
            refine wpAnyH_take (i := 6) (oi := { dst := some 96, op := Op.load 24 (Operand.tmp 95), type := 24, pos := _, after := _, guard := some (2, true) }) (v := undef) rfl (by kernel_rfl) (by kernel_rfl) (by kernel_rfl) (fun _ _ _ h => h) (Or.inr ⟨by rfl, rfl⟩) (by assumption) ?_
            try simp only [Act.put, List.setIfInBounds_toArray, List.set_cons_zero, List.set_cons_succ]
            refine wpAnyH_take (i := 7) (oi := { dst := some 97, op := Op.move (Operand.tmp 4), type := 22, pos := _, after := _, guard := some (2, true) }) (v := undef) rfl (by kernel_rfl) (by kernel_rfl) (by kernel_rfl) (fun _ _ _ h => h) (Or.inr ⟨by rfl, rfl⟩) (by assumption) ?_
            try simp only [Act.put, List.setIfInBounds_toArray, List.set_cons_zero, List.set_cons_succ]
            refine wpAnyH_take (i := 8) (oi := { dst := some 98, op := Op.move (Operand.tmp 8), type := 3, pos := _, after := _, guard := some (2, true) }) (v := undef) rfl (by kernel_rfl) (by kernel_rfl) (by kernel_rfl) (fun _ _ _ h => h) (Or.inr ⟨by rfl, rfl⟩) (by assumption) ?_
            try simp only [Act.put, List.setIfInBounds_toArray, List.set_cons_zero, List.set_cons_succ]
            refine wpAnyH_take (i := 9) (oi := { dst := some 99, op := Op.binOp BinOp.sub 3 (Operand.tmp 98) (Operand.const (Value.int IntKind.i64 1)) 3, type := 3, pos := _, after := _, guard := some (2, true) }) (v := undef) rfl (by kernel_rfl) (by kernel_rfl) (by kernel_rfl) (fun _ _ _ h => h) (Or.inr ⟨by rfl, rfl⟩) (by assumption) ?_
            try simp only [Act.put, List.setIfInBounds_toArray, List.set_cons_zero, List.set_cons_succ]
            refine wpAnyH_take (i := 10) (oi := { dst := some 100, op := Op.indexAddr 22 (Operand.tmp 97) (Operand.tmp 99), type := 0, pos := _, after := _, guard := some (2, true) }) (v := undef) rfl (by kernel_rfl) (by kernel_rfl) (by kernel_rfl) (fun _ _ _ h => h) (Or.inr ⟨by rfl, rfl⟩) (by assumption) ?_
            try simp only [Act.put, List.setIfInBounds_toArray, List.set_cons_zero, List.set_cons_succ]
            refine wpAnyH_take (i := 11) (oi := { dst := some 101, op := Op.load 24 (Operand.tmp 100), type := 24, pos := _, after := _, guard := some (2, true) }) (v := undef) rfl (by kernel_rfl) (by kernel_rfl) (by kernel_rfl) (fun _ _ _ h => h) (Or.inr ⟨by rfl, rfl⟩) (by assumption) ?_
            try simp only [Act.put, List.setIfInBounds_toArray, List.set_cons_zero, List.set_cons_succ]
            refine wpAnyH_take (i := 12) (oi := { dst := some 102, op := Op.call { callee := Callee.value (Operand.func 11), args := #[Operand.tmp 96, Operand.tmp 101], argTypes := #[24, 24] }, type := 4, pos := _, after := _, guard := some (2, true) }) (v := undef) rfl (by kernel_rfl) (by kernel_rfl) (by kernel_rfl) (fun _ _ _ h => h) (Or.inr ⟨by rfl, rfl⟩) (by assumption) ?_
            try simp only [Act.put, List.setIfInBounds_toArray, List.set_cons_zero, List.set_cons_succ]
            refine wpAnyH_take (i := 13) (oi := { dst := some 103, op := Op.pick (Operand.tmp 92) (Operand.tmp 102) (Operand.const (Value.bool false)), type := 4, pos := _, after := _, guard := none }) (v := ?_) rfl (by kernel_rfl) (by kernel_rfl) (by kernel_rfl) (fun _ _ _ h => h) (Or.inl ⟨by rfl, ?_⟩) (by assumption) ?_
            rotate_left
            · intro wS hSw; (try dsimp only at hSw); go_simp; first | done | with_reducible rfl
            try simp only [Act.put, List.setIfInBounds_toArray, List.set_cons_zero, List.set_cons_succ]
            refine wpAnyH_done (by kernel_rfl) ?_ _
            go_wp2
            go_roundw
            case rel => exact ⟨1, ca + 1, cb, by first | rfl | go_num, by first | rfl | go_num, by first | rfl | go_num, by omega, by omega, by omega, ⟨HN.out.1 _ (by simp), HN.out.2 _ (by simp)⟩, HBW.out.drew⟩
            case measure => simp [intOf]; omega
          · have hj1 : decide ((0 : Int) < j) = true := decide_eq_true (by omega)
            have hj2 : decide (0 < j) = true := decide_eq_true (by omega)
            obtain ⟨i, hi⟩ : ∃ i, j = i + 1 := ⟨j - 1, by omega⟩
            have hil : (i : Int) < n := by omega
            have hwj : IntKind.i64.wrap ((j : Int) - 1) = (i : Int) := by rw [IntKind.wrap_i64]; omega
            have hgi := HG4.out i (by omega)
            have hgj := HG4.out j hlt
            rw [HGX.out] at hgj
            have hl0 : ltO (g j) (g i) = false := HSR.out i j (by omega) hlt
            rw [HGX.out] at hl0
            obtain ⟨⟨ha, hb, hc⟩, hgx⟩ : ∃ y, g i = y := ⟨_, rfl⟩
            rw [hgx] at hgi hl0
            have HL0 : Hid (ltO (ga, gb, gc) (ha, hb, hc) = false) := hl0
            clear hgx hl0
            have HS : Hid (∀ y, Below w3.heap.size w3 y → (y.cell? ⟨bs, os + j * 3, none⟩ = some (.int .i64 ga) ∧ y.cell? ⟨bs, os + j * 3 + 1, none⟩ = some (.int .i64 gb) ∧ y.cell? ⟨bs, os + j * 3 + 2, none⟩ = some (.int .i64 gc) ∧ y.cell? ⟨bs, os + i * 3, none⟩ = some (.int .i64 ha) ∧ y.cell? ⟨bs, os + i * 3 + 1, none⟩ = some (.int .i64 hb) ∧ y.cell? ⟨bs, os + i * 3 + 2, none⟩ = some (.int .i64 hc)) ∧ Below w3.heap.size w3 y) := fun y hy => ⟨⟨(hgj y hy).1, (hgj y hy).2.1, (hgj y hy).2.2, (hgi y hy).1, (hgi y hy).2.1, (hgi y hy).2.2⟩, hy⟩
            clear hgi hgj hi hj0 hHeld
            go_region_held3 (fun y => (y.cell? ⟨bs, os + j * 3, none⟩ = some (.int .i64 ga) ∧ y.cell? ⟨bs, os + j * 3 + 1, none⟩ = some (.int .i64 gb) ∧ y.cell? ⟨bs, os + j * 3 + 2, none⟩ = some (.int .i64 gc) ∧ y.cell? ⟨bs, os + i * 3, none⟩ = some (.int .i64 ha) ∧ y.cell? ⟨bs, os + i * 3 + 1, none⟩ = some (.int .i64 hb) ∧ y.cell? ⟨bs, os + i * 3 + 2, none⟩ = some (.int .i64 hc)) ∧ Below w3.heap.size w3 y)
              (first | exact HS.out _ (bstep (by assumption) (sBel (by assumption))) | exact HS.out _ HBW.out.drew)
              (first | (go_at_call 11; refine (less14_any ga gb gc ha hb hc _).mono ?_; rintro e w7 ⟨rfl, hb7⟩; rw [HL0.out]))
            all_goals
              go_wp2
              go_roundw
              case rel => exact ⟨j + 1, ca + 1, cb, by first | rfl | go_num, by first | rfl | go_num, by first | rfl | go_num, by omega, by omega, by omega, ⟨HN.out.1 _ (by simp), HN.out.2 _ (by simp)⟩, (sBel (by assumption))⟩
              case measure => simp [intOf]; omega
        · go_wp2_with fail
          go_region
          go_wp2_with fail
          go_region
          go_wp2_with fail
          generalize wr.drew.drew = W at *
          by_cases hj0 : j = 0
          · subst hj0
            refine wp_region_held_drew (S := fun _ : World => True) (by kernel_rfl) ?_ (fun hHeld => ?_)
            · trivial
            refine wpAnyH_take (i := 0) (oi := { dst := some 90, op := Op.move (Operand.tmp 8), type := 3, pos := _, after := _, guard := none }) (v := ?_) rfl (by kernel_rfl) (by kernel_rfl) (by kernel_rfl) (fun _ _ _ h => h) (Or.inl ⟨by rfl, ?_⟩) (by assumption) ?_
            rotate_left
            · intro wS hSw; (try dsimp only at hSw); go_simp; first | done | with_reducible rfl
            try simp only [Act.put, List.setIfInBounds_toArray, List.set_cons_zero, List.set_cons_succ]
            refine wpAnyH_take (i := 1) (oi := { dst := some 91, op := Op.binOp BinOp.gtr 3 (Operand.tmp 90) (Operand.const (Value.int IntKind.i64 0)) 3, type := 4, pos := _, after := _, guard := none }) (v := ?_) rfl (by kernel_rfl) (by kernel_rfl) (by kernel_rfl) (fun _ _ _ h => h) (Or.inl ⟨by rfl, ?_⟩) (by assumption) ?_
            rotate_left
            · intro wS hSw; (try dsimp only at hSw); go_simp; first | done | with_reducible rfl
            try simp only [Act.put, List.setIfInBounds_toArray, List.set_cons_zero, List.set_cons_succ]
            refine wpAnyH_take (i := 2) (oi := { dst := some 92, op := Op.move (Operand.tmp 91), type := 4, pos := _, after := _, guard := none }) (v := ?_) rfl (by kernel_rfl) (by kernel_rfl) (by kernel_rfl) (fun _ _ _ h => h) (Or.inl ⟨by rfl, ?_⟩) (by assumption) ?_
            rotate_left
            · intro wS hSw; (try dsimp only at hSw); go_simp; first | done | with_reducible rfl
            try simp only [Act.put, List.setIfInBounds_toArray, List.set_cons_zero, List.set_cons_succ]
            refine wpAnyH_take (i := 3) (oi := { dst := some 93, op := Op.move (Operand.tmp 4), type := 22, pos := _, after := _, guard := some (2, true) }) (v := undef) rfl (by kernel_rfl) (by kernel_rfl) (by kernel_rfl) (fun _ _ _ h => h) (Or.inr ⟨by rfl, rfl⟩) (by assumption) ?_
            try simp only [Act.put, List.setIfInBounds_toArray, List.set_cons_zero, List.set_cons_succ]
            refine wpAnyH_take (i := 4) (oi := { dst := some 94, op := Op.move (Operand.tmp 8), type := 3, pos := _, after := _, guard := some (2, true) }) (v := undef) rfl (by kernel_rfl) (by kernel_rfl) (by kernel_rfl) (fun _ _ _ h => h) (Or.inr ⟨by rfl, rfl⟩) (by assumption) ?_
            try simp only [Act.put, List.setIfInBounds_toArray, List.set_cons_zero, List.set_cons_succ]
            refine wpAnyH_take (i := 5) (oi := { dst := some 95, op := Op.indexAddr 22 (Operand.tmp 93) (Operand.tmp 94), type := 0, pos := _, after := _, guard := some (2, true) }) (v := undef) rfl (by kernel_rfl) (by kernel_rfl) (by kernel_rfl) (fun _ _ _ h => h) (Or.inr ⟨by rfl, rfl⟩) (by assumption) ?_
            try simp only [Act.put, List.setIfInBounds_toArray, List.set_cons_zero, List.set_cons_succ]
            refine wpAnyH_take (i := 6) (oi := { dst := some 96, op := Op.load 24 (Operand.tmp 95), type := 24, pos := _, after := _, guard := some (2, true) }) (v := undef) rfl (by kernel_rfl) (by kernel_rfl) (by kernel_rfl) (fun _ _ _ h => h) (Or.inr ⟨by rfl, rfl⟩) (by assumption) ?_
            try simp only [Act.put, List.setIfInBounds_toArray, List.set_cons_zero, List.set_cons_succ]
            refine wpAnyH_take (i := 7) (oi := { dst := some 97, op := Op.move (Operand.tmp 4), type := 22, pos := _, after := _, guard := some (2, true) }) (v := undef) rfl (by kernel_rfl) (by kernel_rfl) (by kernel_rfl) (fun _ _ _ h => h) (Or.inr ⟨by rfl, rfl⟩) (by assumption) ?_
            try simp only [Act.put, List.setIfInBounds_toArray, List.set_cons_zero, List.set_cons_succ]
            refine wpAnyH_take (i := 8) (oi := { dst := some 98, op := Op.move (Operand.tmp 8), type := 3, pos := _, after := _, guard := some (2, true) }) (v := undef) rfl (by kernel_rfl) (by kernel_rfl) (by kernel_rfl) (fun _ _ _ h => h) (Or.inr ⟨by rfl, rfl⟩) (by assumption) ?_
            try simp only [Act.put, List.setIfInBounds_toArray, List.set_cons_zero, List.set_cons_succ]
            refine wpAnyH_take (i := 9) (oi := { dst := some 99, op := Op.binOp BinOp.sub 3 (Operand.tmp 98) (Operand.const (Value.int IntKind.i64 1)) 3, type := 3, pos := _, after := _, guard := some (2, true) }) (v := undef) rfl (by kernel_rfl) (by kernel_rfl) (by kernel_rfl) (fun _ _ _ h => h) (Or.inr ⟨by rfl, rfl⟩) (by assumption) ?_
            try simp only [Act.put, List.setIfInBounds_toArray, List.set_cons_zero, List.set_cons_succ]
            refine wpAnyH_take (i := 10) (oi := { dst := some 100, op := Op.indexAddr 22 (Operand.tmp 97) (Operand.tmp 99), type := 0, pos := _, after := _, guard := some (2, true) }) (v := undef) rfl (by kernel_rfl) (by kernel_rfl) (by kernel_rfl) (fun _ _ _ h => h) (Or.inr ⟨by rfl, rfl⟩) (by assumption) ?_
            try simp only [Act.put, List.setIfInBounds_toArray, List.set_cons_zero, List.set_cons_succ]
            refine wpAnyH_take (i := 11) (oi := { dst := some 101, op := Op.load 24 (Operand.tmp 100), type := 24, pos := _, after := _, guard := some (2, true) }) (v := undef) rfl (by kernel_rfl) (by kernel_rfl) (by kernel_rfl) (fun _ _ _ h => h) (Or.inr ⟨by rfl, rfl⟩) (by assumption) ?_
            try simp only [Act.put, List.setIfInBounds_toArray, List.set_cons_zero, List.set_cons_succ]
            refine wpAnyH_take (i := 12) (oi := { dst := some 102, op := Op.call { callee := Callee.value (Operand.func 11), args := #[Operand.tmp 96, Operand.tmp 101], argTypes := #[24, 24] }, type := 4, pos := _, after := _, guard := some (2, true) }) (v := undef) rfl (by kernel_rfl) (by kernel_rfl) (by kernel_rfl) (fun _ _ _ h => h) (Or.inr ⟨by rfl, rfl⟩) (by assumption) ?_
            try simp only [Act.put, List.setIfInBounds_toArray, List.set_cons_zero, List.set_cons_succ]
            refine wpAnyH_take (i := 13) (oi := { dst := some 103, op := Op.pick (Operand.tmp 92) (Operand.tmp 102) (Operand.const (Value.bool false)), type := 4, pos := _, after := _, guard := none }) (v := ?_) rfl (by kernel_rfl) (by kernel_rfl) (by kernel_rfl) (fun _ _ _ h => h) (Or.inl ⟨by rfl, ?_⟩) (by assumption) ?_
            rotate_left
            · intro wS hSw; (try dsimp only at hSw); go_simp; first | done | with_reducible rfl
            try simp only [Act.put, List.setIfInBounds_toArray, List.set_cons_zero, List.set_cons_succ]
            refine wpAnyH_done (by kernel_rfl) ?_ _
            go_wp2
            go_roundw
            case rel => exact ⟨1, ca + 1, cb + 1, by first | rfl | go_num, by first | rfl | go_num, by first | rfl | go_num, by omega, by omega, by omega, ⟨HN.out.1 _ (by simp), HN.out.2 _ (by simp)⟩, HBW.out.drew⟩
            case measure => simp [intOf]; omega
          · have hj1 : decide ((0 : Int) < j) = true := decide_eq_true (by omega)
            have hj2 : decide (0 < j) = true := decide_eq_true (by omega)
            obtain ⟨i, hi⟩ : ∃ i, j = i + 1 := ⟨j - 1, by omega⟩
            have hil : (i : Int) < n := by omega
            have hwj : IntKind.i64.wrap ((j : Int) - 1) = (i : Int) := by rw [IntKind.wrap_i64]; omega
            have hgi := HG4.out i (by omega)
            have hgj := HG4.out j hlt
            rw [HGX.out] at hgj
            have hl0 : ltO (g j) (g i) = false := HSR.out i j (by omega) hlt
            rw [HGX.out] at hl0
            obtain ⟨⟨ha, hb, hc⟩, hgx⟩ : ∃ y, g i = y := ⟨_, rfl⟩
            rw [hgx] at hgi hl0
            have HL0 : Hid (ltO (ga, gb, gc) (ha, hb, hc) = false) := hl0
            clear hgx hl0
            have HS : Hid (∀ y, Below w3.heap.size w3 y → (y.cell? ⟨bs, os + j * 3, none⟩ = some (.int .i64 ga) ∧ y.cell? ⟨bs, os + j * 3 + 1, none⟩ = some (.int .i64 gb) ∧ y.cell? ⟨bs, os + j * 3 + 2, none⟩ = some (.int .i64 gc) ∧ y.cell? ⟨bs, os + i * 3, none⟩ = some (.int .i64 ha) ∧ y.cell? ⟨bs, os + i * 3 + 1, none⟩ = some (.int .i64 hb) ∧ y.cell? ⟨bs, os + i * 3 + 2, none⟩ = some (.int .i64 hc)) ∧ Below w3.heap.size w3 y) := fun y hy => ⟨⟨(hgj y hy).1, (hgj y hy).2.1, (hgj y hy).2.2, (hgi y hy).1, (hgi y hy).2.1, (hgi y hy).2.2⟩, hy⟩
            clear hgi hgj hi hj0 hHeld
            go_region_held3 (fun y => (y.cell? ⟨bs, os + j * 3, none⟩ = some (.int .i64 ga) ∧ y.cell? ⟨bs, os + j * 3 + 1, none⟩ = some (.int .i64 gb) ∧ y.cell? ⟨bs, os + j * 3 + 2, none⟩ = some (.int .i64 gc) ∧ y.cell? ⟨bs, os + i * 3, none⟩ = some (.int .i64 ha) ∧ y.cell? ⟨bs, os + i * 3 + 1, none⟩ = some (.int .i64 hb) ∧ y.cell? ⟨bs, os + i * 3 + 2, none⟩ = some (.int .i64 hc)) ∧ Below w3.heap.size w3 y)
              (first | exact HS.out _ (bstep (by assumption) (sBel (by assumption))) | exact HS.out _ HBW.out.drew)
              (first | (go_at_call 11; refine (less14_any ga gb gc ha hb hc _).mono ?_; rintro e w7 ⟨rfl, hb7⟩; rw [HL0.out]))
            all_goals
              go_wp2
              go_roundw
              case rel => exact ⟨j + 1, ca + 1, cb + 1, by first | rfl | go_num, by first | rfl | go_num, by first | rfl | go_num, by omega, by omega, by omega, ⟨HN.out.1 _ (by simp), HN.out.2 _ (by simp)⟩, (sBel (by assumption))⟩
              case measure => simp [intOf]; omega
    · have hlt' : ¬ (j : Int) < n := by omega
      obtain rfl : j = n := by omega
      obtain rfl : ca = cb := by rw [HC.out.1, HC.out.2, HCN.out]
      go_wp2_with fail
      have HBW : Hid (Below w.heap.size w wr ∧ Below w2.heap.size w2 wr) := ⟨HB3.out.trans (hbw.mono HB3.out.size), HB23.out.trans (hbw.mono HB23.out.size)⟩
      refine (sort14_any j g _ _ (HOS.out.later HBW.out.2) (wf_same HCN.out HWF.out) (by omega)).mono ?_
      rintro e w5 ⟨v5, g5, rfl, ho5, hc5, hs5, hb5⟩
      have HO5 : Hid (Ops w5 v5 j g5) := ho5
      have H5 : Hid ((∀ i, i < j → g5 i = g i) ∧ Below w.heap.size w w5 ∧ Ops w5 (.slice (some ⟨bs, os, none⟩) j caps) j g) := ⟨sorted_one hs5 HSR.out hc5, HBW.out.1.trans (hb5.mono HBW.out.1.size), HOS.out.later (HBW.out.2.trans (hb5.mono HBW.out.2.size))⟩
      clear hc5 hs5 hb5
      obtain ⟨a5, c5, rfl, _, _, _, _⟩ := ho5
      go_wp2_with fail
      refine (same14_any j g5 g _ _ _ HO5.out H5.out.2.2 H5.out.1 (by omega)).mono ?_
      rintro e w6 ⟨rfl, hb6⟩
      have H6 : Hid (Below w.heap.size w w6) := H5.out.2.1.trans (hb6.mono H5.out.2.1.size)
      clear hb6
      go_wp2_with fail
      go_ret
      exact ⟨rfl, H6.out⟩
end Go.Proofs.Ytcdkocdjbpebpaa
/- Lists of options that are put together. -/
namespace Go.Proofs.Ytcdkocdjbpebpaa
open Go.RowKit

/-- What an append of a list that is read comes to. -/
theorem wp_append_ops {w : World} {o : Oper} {act : Act} {K : Act → World → Prop} {Q : Exit → Act → World → Prop} (s x : Operand)
    (ho : o.op = .call { callee := .builtin .append, args := #[s, x], argTypes := #[22, 22] }) (base : Nat) (v u : Value) (S : List (Int × Int × Int)) (m : Nat) (g : Nat → Int × Int × Int)
    (hs : act.eval s = v) (hown : OwnO w base v S) (hx : act.eval x = u) (hr : Ops w u m g) (hn : S.length + m ≤ 100000) (hbase : base ≤ w.heap.size)
    (h : ∀ v' w', OwnO w' base v' (S ++ lstO g m) → Below base w w' → K (act.put o.dst v') w') : Oper.wp Try.prog o act w K Q := by
  obtain ⟨i0, hi, hz0, hz1, hz2⟩ := info_parts Try.infoOpt
  have hlow := hown.low
  unfold OwnO at hown
  have hll : (lstO g m).length = m := by simp [lstO]
  obtain ⟨a, cap, rfl, h1, h2, h0, h3⟩ := hr
  have m1 : S.length + m ≤ maxLen := by unfold maxLen; omega
  cases a with
  | none =>
    obtain rfl := h0 rfl
    obtain rfl : m = 0 := by omega
    have hr := run_append_owned_none (P := Try.prog) (w := w) base 22 o.type 24 i0 3 Try.underlying22 hi v S.length (flatO S) hown
    unfold Oper.wp execOp
    have hx' : act.eval x = .slice none 0 0 := hx
    simp only [ho, resolve, invoke, builtin, Sem.run_bind, Sem.run_pure, Result.andThen_ok, List.map_toArray, List.map_cons, List.map_nil, hs, hx', hr]
    refine h v w ?_ (Below.refl _ _)
    rw [show lstO g 0 = [] from rfl, List.append_nil]
    exact hown
  | some ad =>
    refine wp_append_own w s x 22 ho base 24 i0 _ 3 24 Try.underlying22 hi hz0 hz1 hz2 rfl (by decide) v S.length (flatO S) hs hown ad m cap (flatO (lstO g m)) hx (by rw [flatO_len, hll]) (fun j q hq => ?_) (flatO_one _) m1 (by omega) hbase ?_
    · have hj := (List.getElem?_eq_some_iff.1 hq).1
      rw [flatO_len, hll] at hj
      obtain ⟨b, oo, he, h4⟩ := h3 (by omega)
      obtain rfl : ad = ⟨b, oo, none⟩ := by simpa using he
      rw [flatO_get _ j (by rw [hll]; exact hj), List.getD_eq_getElem?_getD, lstO_get g m (j / 3) (by omega)] at hq
      rw [← hq, Go.WideShapes.add_plain]
      have hm : j % 3 = 0 ∨ j % 3 = 1 ∨ j % 3 = 2 := by omega
      have hd : j / 3 * 3 + j % 3 = j := by omega
      have hlt : j / 3 < m := by omega
      generalize j / 3 = i3 at *
      obtain ⟨k0, k1, k2⟩ := h4 i3 hlt
      rcases hm with e | e | e
      · rw [e] at hd ⊢; rw [← hd, Nat.add_zero]; exact k0
      · rw [e] at hd ⊢; rw [← hd, ← Nat.add_assoc]; exact k1
      · rw [e] at hd ⊢; rw [← hd, ← Nat.add_assoc]; exact k2
    · intro v' w' g1 g2 _
      refine h v' w' ?_ ((Below.refl _ _).grown g2 hbase fun k hk => (hlow k hk).1)
      unfold OwnO
      rw [← flatO_app] at g1
      rw [List.length_append, hll]
      exact g1
theorem append_ops {w : World} {ops : Array Oper} {rest : List Oper} {o : Oper} {act : Act} {Q : Exit → Act → World → Prop} (hgd : o.guard = Option.none) (s x : Operand)
    (ho : o.op = .call { callee := .builtin .append, args := #[s, x], argTypes := #[22, 22] }) (base : Nat) (v u : Value) (S : List (Int × Int × Int)) (m : Nat) (g : Nat → Int × Int × Int)
    (hs : act.eval s = v) (hown : OwnO w base v S) (hx : act.eval x = u) (hr : Ops w u m g) (hn : S.length + m ≤ 100000) (hbase : base ≤ w.heap.size)
    (h : ∀ v' w', OwnO w' base v' (S ++ lstO g m) → Below base w w' → wpList Try.prog ops Q rest (act.put o.dst v') w') : wpList Try.prog ops Q (o :: rest) act w := by
  refine wpList_plain hgd fun K hK => ?_
  exact wp_append_ops s x ho base v u S m g hs hown hx hr hn hbase fun v' w' h1 h2 => hK _ _ (h v' w' h1 h2)
theorem OwnO.nil (w : World) (base : Nat) : OwnO w base (.slice none 0 0) [] := World.ownsRow_nil w base _ _
/-- A list that was made, read. -/
theorem OwnO.ops {w : World} {base : Nat} {v : Value} {S : List (Int × Int × Int)} (h : OwnO w base v S) : Ops w v S.length (fun i => S.getD i (0, 0, 0)) := by
  have ho := h
  obtain ⟨_, ⟨e, e0⟩ | ⟨g, cap, cur, rfl, hb, hh, h1, h2, _⟩⟩ := h
  · rw [e, e0]; exact ⟨none, 0, rfl, by omega, by unfold maxLen; omega, fun _ => rfl, fun hx => by omega⟩
  · refine ⟨_, cap, rfl, h1, h2, fun e => (by cases e), fun _ => ⟨g, 0, rfl, fun i hi => ?_⟩⟩
    have hc := fun t (ht : t < 3) => (World.ownsRow.cellAt ho (i * 3 + t) (by omega)).trans (flatO_get S (i * 3 + t) (by omega))
    have e0 : (i * 3 + 0) / 3 = i ∧ (i * 3 + 0) % 3 = 0 := by omega
    have e1 : (i * 3 + 1) / 3 = i ∧ (i * 3 + 1) % 3 = 1 := by omega
    have e2 : (i * 3 + 2) / 3 = i ∧ (i * 3 + 2) % 3 = 2 := by omega
    have c0 := hc 0 (by omega); have c1 := hc 1 (by omega); have c2 := hc 2 (by omega)
    rw [e0.1, e0.2] at c0; rw [e1.1, e1.2] at c1; rw [e2.1, e2.2] at c2
    rw [Nat.zero_add]
    exact ⟨c0, c1, c2⟩

/-- Two lists as one. -/
def bothO (a b : Nat) (f g : Nat → Int × Int × Int) (i : Nat) : Int × Int × Int := (lstO f a ++ lstO g b).getD i (0, 0, 0)
theorem bothO_lst (a b : Nat) (f g : Nat → Int × Int × Int) : lstO (bothO a b f g) (a + b) = lstO f a ++ lstO g b := by
  apply List.ext_getElem?
  intro i
  by_cases c : i < a + b
  · rw [lstO_get _ _ _ c]
    unfold bothO
    rw [List.getD_eq_getElem?_getD, List.getElem?_eq_getElem (by simp [lstO]; omega)]
    rfl
  · rw [List.getElem?_eq_none (by simp [lstO]; omega), List.getElem?_eq_none (by simp [lstO]; omega)]
theorem bothO_cnt (a b : Nat) (f g : Nat → Int × Int × Int) (x : Int × Int × Int) : cntO (bothO a b f g) (a + b) x = cntO f a x + cntO g b x := by
  rw [← lstO_count, bothO_lst, List.count_append, lstO_count, lstO_count]
/-- Who is the first of both is the first of one of them; and none of theirs is ahead of it. -/
theorem both_first {a b k : Nat} {f g gx gy : Nat → Int × Int × Int} (ha : 0 < a) (hk : IsFst (bothO a b f g) (a + b) k) (hx : SrtL gx a) (hcx : ∀ x, cntO gx a x = cntO f a x) (hy : SrtL gy b) (hcy : ∀ x, cntO gy b x = cntO g b x) :
    ltO (gx 0) (bothO a b f g k) = false ∧ (bothO a b f g k = gx 0 ∨ bothO a b f g k ≠ gx 0 ∧ 0 < b ∧ bothO a b f g k = gy 0) := by
  have low : ∀ x, 0 < cntO f a x + cntO g b x → ltO x (bothO a b f g k) = false := fun x hx => by
    obtain ⟨i, hi, e⟩ := cntO_pos (f := bothO a b f g) (n := a + b) (x := x) (by rw [bothO_cnt]; exact hx)
    rw [← e]; exact hk.2.1 i hi
  have hx0 : 0 < cntO f a (gx 0) := by rw [← hcx]; exact cntO_at ha
  have l1 := low (gx 0) (by omega)
  refine ⟨l1, ?_⟩
  by_cases c : bothO a b f g k = gx 0
  · exact Or.inl c
  · refine Or.inr ⟨c, ?_⟩
    have hp := cntO_at (f := bothO a b f g) hk.1
    rw [bothO_cnt] at hp
    by_cases h1 : 0 < cntO f a (bothO a b f g k)
    · obtain ⟨i, hi, e⟩ := cntO_pos (f := gx) (n := a) (x := bothO a b f g k) (by rw [hcx]; exact h1)
      have := (hx.first ha).2.1 i hi
      rw [e] at this
      exact absurd (ltO_same this l1) c
    · have h2 : 0 < cntO g b (bothO a b f g k) := by omega
      obtain ⟨i, hi, e⟩ := cntO_pos (f := gy) (n := b) (x := bothO a b f g k) (by rw [hcy]; exact h2)
      have hb : 0 < b := by omega
      have q := (hy.first hb).2.1 i hi
      rw [e] at q
      have hy0 : 0 < cntO g b (gy 0) := by rw [← hcy]; exact cntO_at hb
      exact ⟨hb, ltO_same q (low (gy 0) (by omega))⟩
theorem bothO_wf {a b : Nat} {f g : Nat → Int × Int × Int} (hf : ∀ i, i < a → wfO (f i)) (hg : ∀ i, i < b → wfO (g i)) : ∀ i, i < a + b → wfO (bothO a b f g i) := fun i hi => by
  have h := cntO_at (f := bothO a b f g) hi
  rw [bothO_cnt] at h
  by_cases h1 : 0 < cntO f a (bothO a b f g i)
  · obtain ⟨j, hj, e⟩ := cntO_pos h1; rw [← e]; exact hf j hj
  · obtain ⟨j, hj, e⟩ := cntO_pos (f := g) (n := b) (x := bothO a b f g i) (by omega); rw [← e]; exact hg j hj
theorem SrtL.tail {g : Nat → Int × Int × Int} {n : Nat} (h : SrtL g n) : SrtL (fun i => g (i + 1)) (n - 1) := fun i j hij hj => h (i + 1) (j + 1) (by omega) (by omega)
/-- What is behind the first. -/
theorem Ops.tail14 {w : World} {b o n cap : Nat} {g : Nat → Int × Int × Int} (h : Ops w (.slice (some ⟨b, o, none⟩) n cap) n g) (hn : 0 < n) : Ops w (.slice (if cap = 1 then some ⟨b, o, none⟩ else some ⟨b, o + 3, none⟩) (n - 1) (cap - 1)) (n - 1) (fun i => g (i + 1)) := by
  obtain ⟨a, c, e, h1, h2, h0, h3⟩ := h
  cases e
  by_cases c1 : cap = 1
  · rw [if_pos c1]
    exact ⟨_, _, rfl, by omega, by omega, fun e => (by cases e), fun hx => by omega⟩
  · rw [if_neg c1]
    refine ⟨_, _, rfl, by omega, by omega, fun e => (by cases e), fun hx => ⟨b, o + 3, rfl, fun i hi => ?_⟩⟩
    obtain ⟨b', o', e', h4⟩ := h3 hn
    cases e'
    have := h4 (i + 1) (by omega)
    rw [show o + (i + 1) * 3 = o + 3 + i * 3 by omega] at this
    exact this
end Go.Proofs.Ytcdkocdjbpebpaa
/- The document's own Less, First. -/
namespace Go.Proofs.Ytcdkocdjbpebpaa
open Go.RowKit

theorem ltO_1 {a b c d e f : Int} (h : a ≠ d) : ltO (a, b, c) (d, e, f) = decide (a < d) := by unfold ltO; simp [h]
theorem ltO_2 {a b c e f : Int} (h : b ≠ e) : ltO (a, b, c) (a, e, f) = decide (b < e) := by unfold ltO; simp [h]
theorem ltO_3 {a b c f : Int} : ltO (a, b, c) (a, b, f) = decide (c < f) := by unfold ltO; simp

set_option maxHeartbeats 2000000 in
set_option maxRecDepth 100000 in
theorem rless14_any (a b c d e f : Int) (w : World) :
    Calls Try.prog 12 #[.agg #[.int .i64 a, .int .i64 b, .int .i64 c], .agg #[.int .i64 d, .int .i64 e, .int .i64 f]] w fun r w' => r = .returned (.bool (ltO (a, b, c) (d, e, f))) ∧ Below w.heap.size w w' := by
  have HW : Hid (Below w.heap.size w ((w.alloc (.cells #[.int .i64 a, .int .i64 b, .int .i64 c] 24)).alloc (.cells #[.int .i64 d, .int .i64 e, .int .i64 f] 24))) := ((Below.refl _ _).alloc (Nat.le_refl _) _).alloc (by simp) _
  by_cases h1 : a = d
  · subst h1
    by_cases h2 : b = e
    · subst h2
      rw [ltO_3]
      go_enter Try.func12, Try.ntmps12
      go_wp2
      go_ret
      exact ⟨rfl, HW.out⟩
    · rw [ltO_2 h2]
      have h2' : (b == e) = false := by simpa using h2
      go_enter Try.func12, Try.ntmps12
      go_wp2
      go_ret
      exact ⟨rfl, HW.out⟩
  · rw [ltO_1 h1]
    have h1' : (a == d) = false := by simpa using h1
    go_enter Try.func12, Try.ntmps12
    go_wp2
    go_ret
    exact ⟨rfl, HW.out⟩
end Go.Proofs.Ytcdkocdjbpebpaa
/- The document's own First. -/
namespace Go.Proofs.Ytcdkocdjbpebpaa
open Go.RowKit

theorem ex_first {f : Nat → Int × Int × Int} : ∀ {n}, 0 < n → ∃ k, IsFst f n k
  | 0, h => by omega
  | n + 1, _ => by
    by_cases c : n = 0
    · subst c; exact ⟨0, isFst_one f⟩
    · obtain ⟨k, hk⟩ := ex_first (f := f) (n := n) (by omega)
      cases h : ltO (f n) (f k) with
      | false => exact ⟨k, hk.old h⟩
      | true => exact ⟨n, hk.new h⟩
def NoF (f : Nat → Int × Int × Int) (n j : Nat) : Prop := ∀ t, t < j → ∃ s, s < n ∧ ltO (f s) (f t) = true
theorem NoF.first {f : Nat → Int × Int × Int} {n j : Nat} (h : NoF f n j) (hj : j < n) (hm : ∀ s, s < n → ltO (f s) (f j) = false) : IsFst f n j :=
  ⟨hj, hm, fun t ht => by
    obtain ⟨s, hs, e⟩ := h t ht
    cases c : ltO (f j) (f t) with
    | true => rfl
    | false => rw [ltO_ntrans (hm s hs) c] at e; cases e⟩
def AllF (f : Nat → Int × Int × Int) (j i : Nat) (q : Bool) : Prop := (q = true → ∀ s, s < i → ltO (f s) (f j) = false) ∧ (q = false → ∃ s, s < i ∧ ltO (f s) (f j) = true)
theorem AllF.step {f : Nat → Int × Int × Int} {j i : Nat} {q : Bool} (h : AllF f j i q) (hl : ltO (f i) (f j) = false) : AllF f j (i + 1) q :=
  ⟨fun e s hs => by
    by_cases c : s = i
    · subst c; exact hl
    · exact h.1 e s (by omega), fun e => by
    obtain ⟨s, hs, h'⟩ := h.2 e
    exact ⟨s, by omega, h'⟩⟩
theorem AllF.stop {f : Nat → Int × Int × Int} {j i : Nat} (hl : ltO (f i) (f j) = true) : AllF f j (i + 1) false := ⟨fun e => (by cases e), fun _ => ⟨i, by omega, hl⟩⟩

set_option maxHeartbeats 2000000 in
set_option maxRecDepth 100000 in
theorem rfirst14_any (n : Nat) (f : Nat → Int × Int × Int) (v : Value) (w : World) (h : Ops w v n f) (hn : n ≤ 1000) :
    Calls Try.prog 17 #[v] w (FstE n f w) := by
  obtain ⟨a, cap, rfl, h1, h2, h0, h3⟩ := h
  go_enter Try.func17, Try.ntmps17
  go_wp2_with fail
  go_loopw [3] (fun vi wr => ∃ (j : Nat), vi = .int .i64 j ∧ j ≤ n ∧ Hid (NoF f n j) ∧ Below w.heap.size w wr) (fun vi _ => ((n : Int) - intOf vi).toNat)
  case atStart => exact ⟨0, rfl, by omega, fun t ht => by omega, Below.refl _ _⟩
  case round =>
    obtain ⟨j, rfl, hj, HF, hbw⟩ := hrel
    by_cases hjn : j < n
    · have hjn' : (j : Int) < n := by omega
      obtain ⟨b, o, rfl, h4⟩ := h3 (by omega)
      have H4 : Hid (∀ i, i < n → ∀ y, Below w.heap.size w y → y.cell? ⟨b, o + i * 3, none⟩ = some (.int .i64 (f i).1) ∧ y.cell? ⟨b, o + i * 3 + 1, none⟩ = some (.int .i64 (f i).2.1) ∧ y.cell? ⟨b, o + i * 3 + 2, none⟩ = some (.int .i64 (f i).2.2)) := fun i hi y hy => ⟨cell_later hy (h4 i hi).1, cell_later hy (h4 i hi).2.1, cell_later hy (h4 i hi).2.2⟩
      clear h3 h4
      obtain ⟨⟨p, q, t⟩, hX⟩ : ∃ X, f j = X := ⟨_, rfl⟩
      have HX : Hid (f j = (p, q, t)) := hX
      clear hX
      go_wp2_with fail
      go_loopw [4, 5] (fun vb vk wr => ∃ (i : Nat) (z : Bool), vb = .bool z ∧ vk = .int .i64 i ∧ i ≤ n ∧ Hid (AllF f j i z) ∧ Below w.heap.size w wr) (fun _ vk _ => ((n : Int) - intOf vk).toNat)
      case atStart => exact ⟨0, true, rfl, rfl, by omega, ⟨fun _ s hs => by omega, fun e => (by cases e)⟩, hbw⟩
      case round =>
        clear hbw
        obtain ⟨i, z, rfl, rfl, hi, HZ, hbq⟩ := hrel
        by_cases hin : i < n
        · have hin' : (i : Int) < n := by omega
          obtain ⟨⟨ga, gb, gc⟩, hG⟩ : ∃ X, f i = X := ⟨_, rfl⟩
          have ci := fun y hy => H4.out i hin y hy
          have cj := fun y hy => H4.out j hjn y hy
          rw [hG] at ci
          rw [HX.out] at cj
          obtain ⟨l, hl⟩ : ∃ l, ltO (ga, gb, gc) (p, q, t) = l := ⟨_, rfl⟩
          have HL : Hid (ltO (ga, gb, gc) (p, q, t) = l) := hl
          have HN : Hid (AllF f j (i + 1) (if l = true then false else z)) := by
            have hl2 : ltO (f i) (f j) = l := by rw [hG, HX.out]; exact hl
            cases l with
            | false => exact HZ.out.step hl2
            | true => exact AllF.stop hl2
          have CS : Hid (∀ y, Below wr.heap.size wr y → (y.cell? ⟨b, o + i * 3, none⟩ = some (.int .i64 ga) ∧ y.cell? ⟨b, o + i * 3 + 1, none⟩ = some (.int .i64 gb) ∧ y.cell? ⟨b, o + i * 3 + 2, none⟩ = some (.int .i64 gc) ∧ y.cell? ⟨b, o + j * 3, none⟩ = some (.int .i64 p) ∧ y.cell? ⟨b, o + j * 3 + 1, none⟩ = some (.int .i64 q) ∧ y.cell? ⟨b, o + j * 3 + 2, none⟩ = some (.int .i64 t)) ∧ Below wr.heap.size wr y) := fun y hy => by
            have h1 := ci y (hbq.trans (hy.mono hbq.size))
            have h2 := cj y (hbq.trans (hy.mono hbq.size))
            exact ⟨⟨h1.1, h1.2.1, h1.2.2, h2.1, h2.2.1, h2.2.2⟩, hy⟩
          clear ci cj hG hl
          cases l
          all_goals
            go_wp2_with fail
            go_region_held3 (fun y => (y.cell? ⟨b, o + i * 3, none⟩ = some (.int .i64 ga) ∧ y.cell? ⟨b, o + i * 3 + 1, none⟩ = some (.int .i64 gb) ∧ y.cell? ⟨b, o + i * 3 + 2, none⟩ = some (.int .i64 gc) ∧ y.cell? ⟨b, o + j * 3, none⟩ = some (.int .i64 p) ∧ y.cell? ⟨b, o + j * 3 + 1, none⟩ = some (.int .i64 q) ∧ y.cell? ⟨b, o + j * 3 + 2, none⟩ = some (.int .i64 t)) ∧ Below wr.heap.size wr y)
              (first | exact CS.out _ (bstep (by assumption) (sBel (by assumption))) | exact CS.out _ (Below.refl _ _).drew)
              (first | (go_at_call 12; refine (rless14_any ga gb gc p q t _).mono ?_; rintro e w7 ⟨rfl, hb7⟩; rw [HL.out]))
          · go_wp2
            go_roundw
            case rel => exact ⟨i + 1, z, by first | rfl | go_num, by first | rfl | go_num, by omega, HN.out, hbq.trans ((sBel (by assumption)).mono hbq.size)⟩
            case measure => simp [intOf]; omega
          · go_wp2
            go_roundw
            case rel => exact ⟨i + 1, false, by first | rfl | go_num, by first | rfl | go_num, by omega, HN.out, hbq.trans ((sBel (by assumption)).mono hbq.size)⟩
            case measure => simp [intOf]; omega
        · have hin' : ¬ (i : Int) < n := by omega
          obtain rfl : i = n := by omega
          cases z with
          | true =>
            go_wp2_with fail
            go_ret
            exact ⟨j, rfl, Or.inr ⟨j, rfl, HF.out.first hjn (HZ.out.1 rfl)⟩, hbq⟩
          | false =>
            go_wp2_with fail
            go_roundw
            case rel => exact ⟨j + 1, by first | rfl | go_num, by omega, fun t ht => by
              by_cases c : t = j
              · subst c; exact HZ.out.2 rfl
              · exact HF.out t (by omega), hbq⟩
            case measure => simp [intOf]; omega
    · have hjn' : ¬ (j : Int) < n := by omega
      obtain rfl : j = n := by omega
      go_wp2
      go_ret
      refine ⟨-1, rfl, Or.inl ⟨?_, rfl⟩, hbw⟩
      by_cases c : j = 0
      · exact c
      · obtain ⟨k, hk⟩ := ex_first (f := f) (n := j) (by omega)
        obtain ⟨s, hs, e⟩ := HF.out k hk.1
        rw [hk.2.1 s hs] at e; cases e
end Go.Proofs.Ytcdkocdjbpebpaa
/- The document's own Of. -/
namespace Go.Proofs.Ytcdkocdjbpebpaa
open Go.RowKit

theorem rfar14_any (N B m k : Int) (w : World) (b0 : 0 ≤ B) (_k : True) :
    Calls Try.prog 25 #[.agg #[.int .i64 N, .int .u64 B], .int .i64 m, .int .i64 k] w fun e w' => ∃ q, e = .returned (.int .i64 q) ∧ FarIs N B m k q ∧ Below w.heap.size w w' := by
  cases hm : mayB m k with
  | false =>
    refine (refFar_no N B m k w hm).mono ?_
    rintro e w' ⟨rfl, hb⟩
    exact ⟨k, rfl, Or.inl ⟨hm, rfl⟩, hb⟩
  | true =>
    obtain ⟨m0, mk, k6⟩ := mayB_of hm
    obtain ⟨K, rfl⟩ := Int.eq_ofNat_of_zero_le (show 0 ≤ k by omega)
    refine (refFar_in N B m K w b0 m0 mk k6).mono ?_
    rintro e w' ⟨n, rfl, hn, hb⟩
    exact ⟨n, rfl, Or.inr ⟨m0, mk, k6, n, rfl, hn⟩, hb⟩

set_option maxHeartbeats 4000000 in
set_option maxRecDepth 100000 in
theorem rof14_any (id ec et ex em ek ee : Int) (o : Bool) (n r u : Int) (b : Bool) (c d x N B : Int) (w : World) (h1 : IntKind.i64.wrap (c - x) = c - x) (h2 : IntKind.i64.wrap (d - x) = d - x) (b0 : 0 ≤ B) :
    Calls Try.prog 10 #[.int .i64 id, .agg #[.int .i64 ec, .int .i64 et, .int .i64 ex, .int .i64 em, .int .i64 ek, .int .i64 ee], .agg #[.bool o, .int .i64 n, .int .i64 r, .int .i64 u, .bool b, .int .i64 c, .int .i64 d, .int .i64 x], .agg #[.int .i64 N, .int .u64 B]] w (OfE14 N B em ek id ⟨o, n, r, u, b, c, d, x⟩ w) := by
  have HW : Hid (IntKind.i64.wrap (c - x) = c - x ∧ IntKind.i64.wrap (d - x) = d - x) := ⟨h1, h2⟩
  have hBe : Below w.heap.size w ((((w.alloc (.cells #[.int .i64 ec, .int .i64 et, .int .i64 ex, .int .i64 em, .int .i64 ek, .int .i64 ee] 26)).alloc (.cells #[.bool o, .int .i64 n, .int .i64 r, .int .i64 u, .bool b, .int .i64 c, .int .i64 d, .int .i64 x] 28)).alloc (.cells #[.int .i64 N, .int .u64 B] 31)).alloc (.cells #[.int .i64 0, .int .i64 0, .int .i64 0] 24)) := (((((Below.refl _ _).alloc (Nat.le_refl _) _).alloc (by simp) _).alloc (by simp; omega) _).alloc (by simp; omega) _)
  have HBe : Hid (Below w.heap.size w ((((w.alloc (.cells #[.int .i64 ec, .int .i64 et, .int .i64 ex, .int .i64 em, .int .i64 ek, .int .i64 ee] 26)).alloc (.cells #[.bool o, .int .i64 n, .int .i64 r, .int .i64 u, .bool b, .int .i64 c, .int .i64 d, .int .i64 x] 28)).alloc (.cells #[.int .i64 N, .int .u64 B] 31)).alloc (.cells #[.int .i64 0, .int .i64 0, .int .i64 0] 24))) := hBe
  have k6 : True := trivial
  clear h1 h2 hBe
  obtain ⟨l, hl⟩ : ∃ l, lftV ⟨o, n, r, u, b, c, d, x⟩ = l := ⟨_, rfl⟩
  have HL : Hid (lftV ⟨o, n, r, u, b, c, d, x⟩ = l) := hl
  clear hl
  go_enter Try.func10, Try.ntmps10
  go_wp2_with fail
  refine (rleft_any o n r u b c d x _ HW.out.1 HW.out.2).mono ?_
  rintro e w1 ⟨rfl, hb1⟩
  rw [HL.out]
  have HT : Hid (Tre w1 (w.heap.size + 3) 0 0 0) := by
    have := Tre.newO (((w.alloc (.cells #[.int .i64 ec, .int .i64 et, .int .i64 ex, .int .i64 em, .int .i64 ek, .int .i64 ee] 26)).alloc (.cells #[.bool o, .int .i64 n, .int .i64 r, .int .i64 u, .bool b, .int .i64 c, .int .i64 d, .int .i64 x] 28)).alloc (.cells #[.int .i64 N, .int .u64 B] 31)) 0 0 0
    simp only [World.size_alloc] at this
    exact this.later hb1
  have c0 : w1.cell? ⟨w.heap.size, 3, none⟩ = some (.int .i64 em) := cell_later hb1 (cell_later (below_a3 (w.alloc (.cells #[.int .i64 ec, .int .i64 et, .int .i64 ex, .int .i64 em, .int .i64 ek, .int .i64 ee] 26)) _ _ _) (by simp))
  have c1 : w1.cell? ⟨w.heap.size, 4, none⟩ = some (.int .i64 ek) := cell_later hb1 (cell_later (below_a3 (w.alloc (.cells #[.int .i64 ec, .int .i64 et, .int .i64 ex, .int .i64 em, .int .i64 ek, .int .i64 ee] 26)) _ _ _) (by simp))
  have c2 : w1.cell? ⟨w.heap.size + 1, 3, none⟩ = some (.int .i64 u) := cell_later hb1 (cell_later (below_a2 ((w.alloc (.cells #[.int .i64 ec, .int .i64 et, .int .i64 ex, .int .i64 em, .int .i64 ek, .int .i64 ee] 26)).alloc (.cells #[.bool o, .int .i64 n, .int .i64 r, .int .i64 u, .bool b, .int .i64 c, .int .i64 d, .int .i64 x] 28)) _ _) (by simp))
  have hR0 := (fun X : World => (by simp : (X.alloc (.cells #[.int .i64 N, .int .u64 B] 31)).cell? ⟨X.heap.size, 0, none⟩ = some (.int .i64 N))) ((w.alloc (.cells #[.int .i64 ec, .int .i64 et, .int .i64 ex, .int .i64 em, .int .i64 ek, .int .i64 ee] 26)).alloc (.cells #[.bool o, .int .i64 n, .int .i64 r, .int .i64 u, .bool b, .int .i64 c, .int .i64 d, .int .i64 x] 28))
  have hR1 := (fun X : World => (by simp : (X.alloc (.cells #[.int .i64 N, .int .u64 B] 31)).cell? ⟨X.heap.size, 1, none⟩ = some (.int .u64 B))) ((w.alloc (.cells #[.int .i64 ec, .int .i64 et, .int .i64 ex, .int .i64 em, .int .i64 ek, .int .i64 ee] 26)).alloc (.cells #[.bool o, .int .i64 n, .int .i64 r, .int .i64 u, .bool b, .int .i64 c, .int .i64 d, .int .i64 x] 28))
  simp only [World.size_alloc] at hR0 hR1
  have c3 : w1.cell? ⟨w.heap.size + 2, 0, none⟩ = some (.int .i64 N) := cell_later hb1 (cell_later (below_a1 (((w.alloc (.cells #[.int .i64 ec, .int .i64 et, .int .i64 ex, .int .i64 em, .int .i64 ek, .int .i64 ee] 26)).alloc (.cells #[.bool o, .int .i64 n, .int .i64 r, .int .i64 u, .bool b, .int .i64 c, .int .i64 d, .int .i64 x] 28)).alloc (.cells #[.int .i64 N, .int .u64 B] 31)) _) hR0)
  have c4 : w1.cell? ⟨w.heap.size + 2, 1, none⟩ = some (.int .u64 B) := cell_later hb1 (cell_later (below_a1 (((w.alloc (.cells #[.int .i64 ec, .int .i64 et, .int .i64 ex, .int .i64 em, .int .i64 ek, .int .i64 ee] 26)).alloc (.cells #[.bool o, .int .i64 n, .int .i64 r, .int .i64 u, .bool b, .int .i64 c, .int .i64 d, .int .i64 x] 28)).alloc (.cells #[.int .i64 N, .int .u64 B] 31)) _) hR1)
  clear hR0 hR1
  have c5 : w1.cell? ⟨w.heap.size + 1, 0, none⟩ = some (.bool o) := cell_later hb1 (cell_later (below_a2 ((w.alloc (.cells #[.int .i64 ec, .int .i64 et, .int .i64 ex, .int .i64 em, .int .i64 ek, .int .i64 ee] 26)).alloc (.cells #[.bool o, .int .i64 n, .int .i64 r, .int .i64 u, .bool b, .int .i64 c, .int .i64 d, .int .i64 x] 28)) _ _) (by simp))
  have c6 : w1.cell? ⟨w.heap.size + 1, 4, none⟩ = some (.bool b) := cell_later hb1 (cell_later (below_a2 ((w.alloc (.cells #[.int .i64 ec, .int .i64 et, .int .i64 ex, .int .i64 em, .int .i64 ek, .int .i64 ee] 26)).alloc (.cells #[.bool o, .int .i64 n, .int .i64 r, .int .i64 u, .bool b, .int .i64 c, .int .i64 d, .int .i64 x] 28)) _ _) (by simp))
  have HE : Hid (Below w.heap.size w w1) := HBe.out.trans (hb1.mono HBe.out.size)
  obtain ⟨⟨z0, z1, z2⟩, y0, y1, y2⟩ := HT.out.tri
  have s3 := HT.out.1.lt
  cases o with
  | false =>
    have HF : Hid (ofB14 ⟨false, n, r, u, b, c, d, x⟩ = false) := by show _ = _; simp [ofB14]
    have HE0 : Hid (Tre (((w1.setCell ⟨w.heap.size + 3, 0, none⟩ (.int .i64 0)).setCell ⟨w.heap.size + 3, 1, none⟩ (.int .i64 0)).setCell ⟨w.heap.size + 3, 2, none⟩ (.int .i64 0)) (w.heap.size + 3) 0 0 0 ∧ Below w.heap.size w (((w1.setCell ⟨w.heap.size + 3, 0, none⟩ (.int .i64 0)).setCell ⟨w.heap.size + 3, 1, none⟩ (.int .i64 0)).setCell ⟨w.heap.size + 3, 2, none⟩ (.int .i64 0))) := ⟨HT.out.put 0 0 0, below_put3 HE.out (by omega) _ _ _⟩
    clear hb1
    go_wp2_with fail
    generalize (((w1.setCell ⟨w.heap.size + 3, 0, none⟩ (.int .i64 0)).setCell ⟨w.heap.size + 3, 1, none⟩ (.int .i64 0)).setCell ⟨w.heap.size + 3, 2, none⟩ (.int .i64 0)) = w2 at *
    obtain ⟨⟨v0, v1, v2⟩, _⟩ := HE0.out.1.tri
    refine bodyPost_ret (v := .tuple #[.agg #[.int .i64 0, .int .i64 0, .int .i64 0], .bool false]) ?_ rfl ⟨HE0.out.2, Or.inl ⟨HF.out, rfl⟩⟩
    simp [results, Try.results10, go_sem, v0, v1, v2]
  | true =>
    cases b with
    | true =>
      have HF : Hid (ofB14 ⟨true, n, r, u, true, c, d, x⟩ = false) := by show _ = _; simp [ofB14]
      have HE0 : Hid (Tre (((w1.setCell ⟨w.heap.size + 3, 0, none⟩ (.int .i64 0)).setCell ⟨w.heap.size + 3, 1, none⟩ (.int .i64 0)).setCell ⟨w.heap.size + 3, 2, none⟩ (.int .i64 0)) (w.heap.size + 3) 0 0 0 ∧ Below w.heap.size w (((w1.setCell ⟨w.heap.size + 3, 0, none⟩ (.int .i64 0)).setCell ⟨w.heap.size + 3, 1, none⟩ (.int .i64 0)).setCell ⟨w.heap.size + 3, 2, none⟩ (.int .i64 0))) := ⟨HT.out.put 0 0 0, below_put3 HE.out (by omega) _ _ _⟩
      clear hb1
      go_wp2_with fail
      generalize (((w1.setCell ⟨w.heap.size + 3, 0, none⟩ (.int .i64 0)).setCell ⟨w.heap.size + 3, 1, none⟩ (.int .i64 0)).setCell ⟨w.heap.size + 3, 2, none⟩ (.int .i64 0)) = w2 at *
      obtain ⟨⟨v0, v1, v2⟩, _⟩ := HE0.out.1.tri
      refine bodyPost_ret (v := .tuple #[.agg #[.int .i64 0, .int .i64 0, .int .i64 0], .bool false]) ?_ rfl ⟨HE0.out.2, Or.inl ⟨HF.out, rfl⟩⟩
      simp [results, Try.results10, go_sem, v0, v1, v2]
    | false =>
      by_cases hl0 : l = 0
      · subst hl0
        have HF : Hid (ofB14 ⟨true, n, r, u, false, c, d, x⟩ = false) := by show _ = _; simp [ofB14, HL.out]
        have HE0 : Hid (Tre (((w1.setCell ⟨w.heap.size + 3, 0, none⟩ (.int .i64 0)).setCell ⟨w.heap.size + 3, 1, none⟩ (.int .i64 0)).setCell ⟨w.heap.size + 3, 2, none⟩ (.int .i64 0)) (w.heap.size + 3) 0 0 0 ∧ Below w.heap.size w (((w1.setCell ⟨w.heap.size + 3, 0, none⟩ (.int .i64 0)).setCell ⟨w.heap.size + 3, 1, none⟩ (.int .i64 0)).setCell ⟨w.heap.size + 3, 2, none⟩ (.int .i64 0))) := ⟨HT.out.put 0 0 0, below_put3 HE.out (by omega) _ _ _⟩
        clear hb1
        go_wp2_with fail
        generalize (((w1.setCell ⟨w.heap.size + 3, 0, none⟩ (.int .i64 0)).setCell ⟨w.heap.size + 3, 1, none⟩ (.int .i64 0)).setCell ⟨w.heap.size + 3, 2, none⟩ (.int .i64 0)) = w2 at *
        obtain ⟨⟨v0, v1, v2⟩, _⟩ := HE0.out.1.tri
        refine bodyPost_ret (v := .tuple #[.agg #[.int .i64 0, .int .i64 0, .int .i64 0], .bool false]) ?_ rfl ⟨HE0.out.2, Or.inl ⟨HF.out, rfl⟩⟩
        simp [results, Try.results10, go_sem, v0, v1, v2]
      · have HF : Hid (ofB14 ⟨true, n, r, u, false, c, d, x⟩ = true) := by show _ = _; simp [ofB14, HL.out, hl0]
        have hl1 : (l == 0) = false := by simpa using hl0
        have MK : Hid (∀ w' : World, Below w1.heap.size w1 w' → (w'.cell? ⟨w.heap.size, 3, none⟩ = some (.int .i64 em) ∧ w'.cell? ⟨w.heap.size, 4, none⟩ = some (.int .i64 ek) ∧ w'.cell? ⟨w.heap.size + 1, 3, none⟩ = some (.int .i64 u) ∧ w'.cell? ⟨w.heap.size + 2, 0, none⟩ = some (.int .i64 N) ∧ w'.cell? ⟨w.heap.size + 2, 1, none⟩ = some (.int .u64 B)) ∧ Below w1.heap.size w1 w') := fun w' hb => ⟨⟨cell_later hb c0, cell_later hb c1, cell_later hb c2, cell_later hb c3, cell_later hb c4⟩, hb⟩
        clear hb1 z0 z1 z2 y0 y1 y2 hl0 c0 c1 c2 c3 c4
        go_wp2_with fail
        refine wp_region_held_drew (S := (fun w' : World => w'.cell? ⟨w.heap.size, 3, none⟩ = some (.int .i64 em) ∧ w'.cell? ⟨w.heap.size, 4, none⟩ = some (.int .i64 ek) ∧ w'.cell? ⟨w.heap.size + 1, 3, none⟩ = some (.int .i64 u) ∧ w'.cell? ⟨w.heap.size + 2, 0, none⟩ = some (.int .i64 N) ∧ w'.cell? ⟨w.heap.size + 2, 1, none⟩ = some (.int .u64 B))) (by kernel_rfl) ?_ (fun hHeld => ?_)
        · exact (MK.out _ (Below.refl _ _).drew).1
        refine wpAnyH_take (i := 0) (oi := { dst := some 25, op := Op.load 31 (Operand.tmp 7), type := 31, pos := _, after := _, guard := none }) (v := ?_) rfl (by kernel_rfl) (by kernel_rfl) (by kernel_rfl) (fun _ _ _ h => h) (Or.inl ⟨by rfl, ?_⟩) (by assumption) ?_
        rotate_left
        · intro wS hSw; (try dsimp only at hSw); go_simp; first | done | with_reducible rfl
        try simp only [Act.put, List.setIfInBounds_toArray, List.set_cons_zero, List.set_cons_succ]
        refine wpAnyH_take (i := 1) (oi := { dst := some 26, op := Op.fieldAddr 26 (Operand.tmp 5) 3, type := 0, pos := _, after := _, guard := none }) (v := ?_) rfl (by kernel_rfl) (by kernel_rfl) (by kernel_rfl) (fun _ _ _ h => h) (Or.inl ⟨by rfl, ?_⟩) (by assumption) ?_
        rotate_left
        · intro wS hSw; (try dsimp only at hSw); go_simp; first | done | with_reducible rfl
        try simp only [Act.put, List.setIfInBounds_toArray, List.set_cons_zero, List.set_cons_succ]
        refine wpAnyH_take (i := 2) (oi := { dst := some 27, op := Op.load 3 (Operand.tmp 26), type := 3, pos := _, after := _, guard := none }) (v := ?_) rfl (by kernel_rfl) (by kernel_rfl) (by kernel_rfl) (fun _ _ _ h => h) (Or.inl ⟨by rfl, ?_⟩) (by assumption) ?_
        rotate_left
        · intro wS hSw; (try dsimp only at hSw); go_simp; first | done | with_reducible rfl
        try simp only [Act.put, List.setIfInBounds_toArray, List.set_cons_zero, List.set_cons_succ]
        refine wpAnyH_take (i := 3) (oi := { dst := some 28, op := Op.fieldAddr 26 (Operand.tmp 5) 4, type := 0, pos := _, after := _, guard := none }) (v := ?_) rfl (by kernel_rfl) (by kernel_rfl) (by kernel_rfl) (fun _ _ _ h => h) (Or.inl ⟨by rfl, ?_⟩) (by assumption) ?_
        rotate_left
        · intro wS hSw; (try dsimp only at hSw); go_simp; first | done | with_reducible rfl
        try simp only [Act.put, List.setIfInBounds_toArray, List.set_cons_zero, List.set_cons_succ]
        refine wpAnyH_take (i := 4) (oi := { dst := some 29, op := Op.load 3 (Operand.tmp 28), type := 3, pos := _, after := _, guard := none }) (v := ?_) rfl (by kernel_rfl) (by kernel_rfl) (by kernel_rfl) (fun _ _ _ h => h) (Or.inl ⟨by rfl, ?_⟩) (by assumption) ?_
        rotate_left
        · intro wS hSw; (try dsimp only at hSw); go_simp; first | done | with_reducible rfl
        try simp only [Act.put, List.setIfInBounds_toArray, List.set_cons_zero, List.set_cons_succ]
        refine wpAnyH_take (i := 6) (oi := { dst := some 31, op := Op.fieldAddr 28 (Operand.tmp 6) 3, type := 0, pos := _, after := _, guard := none }) (v := ?_) rfl (by kernel_rfl) (by kernel_rfl) (by kernel_rfl) (fun _ _ _ h => h) (Or.inl ⟨by rfl, ?_⟩) (by assumption) ?_
        rotate_left
        · intro wS hSw; (try dsimp only at hSw); go_simp; first | done | with_reducible rfl
        try simp only [Act.put, List.setIfInBounds_toArray, List.set_cons_zero, List.set_cons_succ]
        refine wpAnyH_take (i := 7) (oi := { dst := some 32, op := Op.load 3 (Operand.tmp 31), type := 3, pos := _, after := _, guard := none }) (v := ?_) rfl (by kernel_rfl) (by kernel_rfl) (by kernel_rfl) (fun _ _ _ h => h) (Or.inl ⟨by rfl, ?_⟩) (by assumption) ?_
        rotate_left
        · intro wS hSw; (try dsimp only at hSw); go_simp; first | done | with_reducible rfl
        try simp only [Act.put, List.setIfInBounds_toArray, List.set_cons_zero, List.set_cons_succ]
        refine wpAnyH_take (i := 8) (oi := { dst := some 33, op := Op.move (Operand.tmp 0), type := 3, pos := _, after := _, guard := none }) (v := ?_) rfl (by kernel_rfl) (by kernel_rfl) (by kernel_rfl) (fun _ _ _ h => h) (Or.inl ⟨by rfl, ?_⟩) (by assumption) ?_
        rotate_left
        · intro wS hSw; (try dsimp only at hSw); go_simp; first | done | with_reducible rfl
        try simp only [Act.put, List.setIfInBounds_toArray, List.set_cons_zero, List.set_cons_succ]
        refine wpAnyH_ready (rs := [5]) (by kernel_rfl) (by simp) ?_
        refine AllReadyH.cons (o := { dst := some 30, op := Op.call { callee := Callee.value (Operand.func 25), args := #[Operand.tmp 25, Operand.tmp 27, Operand.tmp 29], argTypes := #[31, 3, 3] }, type := 3, pos := _, after := _, guard := none }) rfl (fun K hK => ?_) AllReadyH.nil
        go_simp
        refine (rfar14_any N B em ek _ b0 k6).mono ?_
        rintro e x2 ⟨q, rfl, hq, hb⟩
        have HQ : Hid (FarIs N B em ek q) := hq
        have HB2 : Hid (Below w1.heap.size w1 x2) := ((Below.refl w1.heap.size w1).drew).trans hb
        have HT2 : Hid (Tre x2 (w.heap.size + 3) 0 0 0) := (HT.out.later (Below.refl _ _).drew).later hb
        clear hb hq
        go_wp2_with fail
        refine hK.out _ _ ?_ (fun hHeld => ?_)
        · exact (MK.out _ HB2.out).1
        clear hK K
        try simp only [Act.put, List.setIfInBounds_toArray, List.set_cons_zero, List.set_cons_succ]
        refine wpAnyH_take (i := 9) (oi := { dst := some 34, op := Op.build 24 #[(0, Operand.tmp 30), (1, Operand.tmp 32), (2, Operand.tmp 33)], type := 24, pos := _, after := _, guard := none }) (v := ?_) rfl (by kernel_rfl) (by kernel_rfl) (by kernel_rfl) (fun _ _ _ h => h) (Or.inl ⟨by rfl, ?_⟩) (by assumption) ?_
        rotate_left
        · intro wS hSw; (try dsimp only at hSw); go_simp; first | done | with_reducible rfl
        try simp only [Act.put, List.setIfInBounds_toArray, List.set_cons_zero, List.set_cons_succ]
        obtain ⟨⟨z0, z1, z2⟩, y0, y1, y2⟩ := HT2.out.tri
        refine wpAnyH_ready (rs := [10]) (by kernel_rfl) (by simp) ?_
        refine AllReadyH.cons (o := { dst := none, op := Op.store 24 (Operand.tmp 8) (Operand.tmp 34), type := 0, pos := _, after := _, guard := none }) rfl (fun K hK => ?_) AllReadyH.nil
        go_simp
        obtain ⟨x3, e3⟩ : ∃ y, ((x2.setCell ⟨w.heap.size + 3, 0, none⟩ (.int .i64 q)).setCell ⟨w.heap.size + 3, 1, none⟩ (.int .i64 u)).setCell ⟨w.heap.size + 3, 2, none⟩ (.int .i64 id) = y := ⟨_, rfl⟩
        rw [e3]
        have HT3 : Hid (Tre x3 (w.heap.size + 3) q u id) := e3 ▸ HT2.out.put q u id
        have HB3 : Hid (Below w.heap.size w x3) := e3 ▸ below_put3 (HE.out.trans (HB2.out.mono HE.out.size)) (by omega) _ _ _
        have e4 := e3
        clear z0 z1 z2 y0 y1 y2 e3
        refine hK.out _ _ ?_ (fun hHeld => ?_)
        · exact e4 ▸ far5 (MK.out _ HB2.out).1 (by omega) _ _ _
        clear hK K
        try simp only [Act.put, List.setIfInBounds_toArray, List.set_cons_zero, List.set_cons_succ]
        refine wpAnyH_take (i := 11) (oi := { dst := some 9, op := Op.assign (Operand.const (Value.bool true)), type := 4, pos := _, after := _, guard := none }) (v := ?_) rfl (by kernel_rfl) (by kernel_rfl) (by kernel_rfl) (fun _ _ _ h => h) (Or.inl ⟨by rfl, ?_⟩) (by assumption) ?_
        rotate_left
        · intro wS hSw; (try dsimp only at hSw); go_simp; first | done | with_reducible rfl
        try simp only [Act.put, List.setIfInBounds_toArray, List.set_cons_zero, List.set_cons_succ]
        refine wpAnyH_done (by kernel_rfl) ?_ _
        obtain ⟨⟨v0, v1, v2⟩, _⟩ := HT3.out.tri
        go_wp2_with fail
        refine bodyPost_ret (v := .tuple #[.agg #[.int .i64 q, .int .i64 u, .int .i64 id], .bool true]) ?_ rfl ⟨HB3.out, Or.inr ⟨HF.out, q, HQ.out, rfl⟩⟩
        simp [results, Try.results10, go_sem, v0, v1, v2]
theorem rof14_val (id ec et ex em ek ee : Int) (o : Bool) (n r u : Int) (b : Bool) (c d x N B : Int) (w : World) (h1 : IntKind.i64.wrap (c - x) = c - x) (h2 : IntKind.i64.wrap (d - x) = d - x) (b0 : 0 ≤ B) :
    Calls Try.prog 10 #[.int .i64 id, .agg #[.int .i64 ec, .int .i64 et, .int .i64 ex, .int .i64 em, .int .i64 ek, .int .i64 ee], .agg #[.bool o, .int .i64 n, .int .i64 r, .int .i64 u, .bool b, .int .i64 c, .int .i64 d, .int .i64 x], .agg #[.int .i64 N, .int .u64 B]] w (OfW14 N B em ek id ⟨o, n, r, u, b, c, d, x⟩ w) := by
  refine (rof14_any id ec et ex em ek ee o n r u b c d x N B w h1 h2 b0).mono ?_
  rintro e w' ⟨hb, ⟨hz, rfl⟩ | ⟨hz, q, hq, rfl⟩⟩
  · exact ⟨(0, 0, 0), by rw [hz], ⟨fun h => (by rw [hz] at h; cases h), fun _ => rfl⟩, hb⟩
  · exact ⟨(q, u, id), by rw [hz], ⟨fun _ => ⟨hq, rfl, rfl⟩, fun h => (by rw [hz] at h; cases h)⟩, hb⟩
end Go.Proofs.Ytcdkocdjbpebpaa
/- The document's own Sort: what it holds on the way. -/
namespace Go.Proofs.Ytcdkocdjbpebpaa
open Go.RowKit

def SrtS (S : List (Int × Int × Int)) : Prop := S.Pairwise (fun x y => ltO y x = false)
theorem getS {S : List (Int × Int × Int)} {i : Nat} (h : i < S.length) : S.getD i (0, 0, 0) = S[i] := by
  rw [List.getD_eq_getElem?_getD, List.getElem?_eq_getElem h]; rfl
theorem SrtS.ins {S : List (Int × Int × Int)} {x : Int × Int × Int} {k : Nat} (hs : SrtS S) (h1 : ∀ t, k ≤ t → t < S.length → ltO x (S.getD t (0, 0, 0)) = true) (h2 : k = 0 ∨ ∃ m, k = m + 1 ∧ m < S.length ∧ ltO x (S.getD m (0, 0, 0)) = false) : SrtS (S.take k ++ [x] ++ S.drop k) := by
  have hdr : ∀ y ∈ S.drop k, ltO y x = false := fun y hy => by
    obtain ⟨i, hi, e⟩ := List.getElem_of_mem hy
    rw [List.length_drop] at hi
    rw [List.getElem_drop] at e
    have := h1 (k + i) (by omega) (by omega)
    rw [getS (by omega), e] at this
    exact ltO_asymm this
  have htk : ∀ y ∈ S.take k, ltO x y = false := fun y hy => by
    rcases h2 with rfl | ⟨m, rfl, hm, h⟩
    · simp at hy
    · obtain ⟨i, hi, e⟩ := List.getElem_of_mem hy
      rw [List.length_take] at hi
      rw [List.getElem_take] at e
      rw [getS hm] at h
      by_cases c : i = m
      · subst c; rw [← e]; exact h
      · have := (List.pairwise_iff_getElem.1 hs) i m (by omega) hm (by omega)
        rw [e] at this
        exact ltO_ntrans h this
  have hs' : SrtS (S.take k ++ S.drop k) := by rw [List.take_append_drop]; exact hs
  unfold SrtS at *
  rw [List.pairwise_append] at hs'
  rw [List.append_assoc, List.pairwise_append]
  refine ⟨hs'.1, List.pairwise_cons.2 ⟨hdr, hs'.2.1⟩, fun y hy z hz => ?_⟩
  rcases List.mem_cons.1 hz with rfl | hz
  · exact htk y hy
  · exact hs'.2.2 y hy z hz
theorem perm_ins14 {S : List (Int × Int × Int)} {f : Nat → Int × Int × Int} {j k : Nat} {x : Int × Int × Int} (hp : S.Perm (lstO f j)) (hx : f j = x) : (S.take k ++ [x] ++ S.drop k).Perm (lstO f (j + 1)) := by
  have e : lstO f (j + 1) = lstO f j ++ [x] := by unfold lstO; rw [List.range_succ, List.map_append, ← hx]; rfl
  have h : (S.take k ++ [x] ++ S.drop k).Perm (x :: (S.take k ++ S.drop k)) := by rw [List.append_assoc]; exact List.perm_middle
  rw [List.take_append_drop] at h
  rw [e]
  exact (h.trans (List.perm_append_comm (l₁ := [x]) (l₂ := S))).trans (hp.append_right [x])
theorem lst_drop {S : List (Int × Int × Int)} {n : Nat} (hn : S.length = n) (k : Nat) : lstO (fun t => S.getD (k + t) (0, 0, 0)) (n - k) = S.drop k := by
  apply List.ext_getElem
  · simp [lstO]; omega
  · intro i h1 h2
    simp only [lstO, List.length_map, List.length_range] at h1
    rw [List.getElem_drop]
    simp only [lstO, List.getElem_map, List.getElem_range]
    exact getS (by omega)
theorem lst_all {S : List (Int × Int × Int)} {n : Nat} (hn : S.length = n) : lstO (fun t => S.getD t (0, 0, 0)) n = S := by
  have := lst_drop hn 0
  simpa using this
theorem OwnO.open14 {w : World} {base : Nat} {v : Value} {S : List (Int × Int × Int)} (h : OwnO w base v S) : (v = .slice none 0 0 ∧ S = []) ∨ ∃ g cap, v = .slice (some ⟨g, 0, none⟩) S.length cap ∧ base ≤ g ∧ g < w.heap.size ∧ S.length ≤ cap ∧ cap ≤ maxLen := by
  obtain ⟨_, ⟨e, e0⟩ | ⟨g, cap, cur, e, hb, hh, h1, h2, _⟩⟩ := h
  · exact Or.inl ⟨e, List.length_eq_zero_iff.1 e0⟩
  · exact Or.inr ⟨g, cap, e, hb, (Array.getElem?_eq_some_iff.1 hh).1, h1, h2⟩
theorem own_front14 {w : World} {base g n cap t size : Nat} {e : TypeId} {xs : List Value} (h : w.ownsRow base e size (.slice (some ⟨g, 0, none⟩) n cap) n xs) (ht : t ≤ n) : w.ownsRow base e size (.slice (some ⟨g, 0, none⟩) t cap) t (xs.take (t * size)) := by
  obtain ⟨h0, h1 | ⟨g', cap', cur, h2, h3, h4, h5, h6, h7, h8⟩⟩ := h
  · simp at h1
  · simp only [Value.slice.injEq, Option.some.injEq, Addr.mk.injEq, and_true, true_and] at h2
    obtain ⟨rfl, rfl⟩ := h2
    have hm : t * size ≤ n * size := Nat.mul_le_mul_right _ ht
    refine ⟨by rw [List.length_take]; omega, .inr ⟨g, cap, cur, rfl, h3, h4, by omega, h6, h7, ?_⟩⟩
    rw [← h8, List.take_take, Nat.min_eq_left hm]
theorem flatO_take (S : List (Int × Int × Int)) : ∀ t, t ≤ S.length → (flatO S).take (t * 3) = flatO (S.take t) := fun t ht => by
  conv => lhs; rw [← List.take_append_drop t S, flatO_app]
  rw [List.take_append_of_le_length (by rw [flatO_len, List.length_take]; omega), List.take_of_length_le (by rw [flatO_len, List.length_take]; omega)]
/-- A list of the call's own, cut short. -/
theorem OwnO.front {w : World} {base g n cap t : Nat} {S : List (Int × Int × Int)} (h : OwnO w base (.slice (some ⟨g, 0, none⟩) n cap) S) (hn : S.length = n) (ht : t ≤ n) : OwnO w base (.slice (some ⟨g, 0, none⟩) t cap) (S.take t) := by
  unfold OwnO at h ⊢
  rw [hn] at h
  have := own_front14 h ht
  rw [flatO_take S t (by omega)] at this
  rw [show (S.take t).length = t by rw [List.length_take]; omega]
  exact this
theorem Ops.tailK {w : World} {b o n cap k : Nat} {g : Nat → Int × Int × Int} (h : Ops w (.slice (some ⟨b, o, none⟩) n cap) n g) (hk : k ≤ n) : Ops w (.slice (if cap = k then some ⟨b, o, none⟩ else some ⟨b, o + k * 3, none⟩) (n - k) (cap - k)) (n - k) (fun i => g (k + i)) := by
  obtain ⟨a, c, e, h1, h2, h0, h3⟩ := h
  cases e
  by_cases c1 : cap = k
  · rw [if_pos c1]
    exact ⟨_, _, rfl, by omega, by omega, fun e => (by cases e), fun hx => by omega⟩
  · rw [if_neg c1]
    refine ⟨_, _, rfl, by omega, by omega, fun e => (by cases e), fun hx => ⟨b, o + k * 3, rfl, fun i hi => ?_⟩⟩
    obtain ⟨b', o', e', h4⟩ := h3 (by omega)
    cases e'
    have := h4 (k + i) (by omega)
    rw [show o + (k + i) * 3 = o + k * 3 + i * 3 by omega] at this
    exact this
theorem wp_append_opsG {w : World} {o : Oper} {act : Act} {K : Act → World → Prop} {Q : Exit → Act → World → Prop} (s x : Operand)
    (ho : o.op = .call { callee := .builtin .append, args := #[s, x], argTypes := #[22, 22] }) (base : Nat) (v u : Value) (S : List (Int × Int × Int)) (m : Nat) (g : Nat → Int × Int × Int)
    (hs : act.eval s = v) (hown : OwnO w base v S) (hx : act.eval x = u) (hr : Ops w u m g) (hn : S.length + m ≤ 100000) (hbase : base ≤ w.heap.size)
    (h : ∀ v' w', OwnO w' base v' (S ++ lstO g m) → w.grownBy w' v.ownBlock → K (act.put o.dst v') w') : Oper.wp Try.prog o act w K Q := by
  obtain ⟨i0, hi, hz0, hz1, hz2⟩ := info_parts Try.infoOpt
  unfold OwnO at hown
  have hll : (lstO g m).length = m := by simp [lstO]
  obtain ⟨a, cap, rfl, h1, h2, h0, h3⟩ := hr
  have m1 : S.length + m ≤ maxLen := by unfold maxLen; omega
  cases a with
  | none =>
    obtain rfl := h0 rfl
    obtain rfl : m = 0 := by omega
    have hr := run_append_owned_none (P := Try.prog) (w := w) base 22 o.type 24 i0 3 Try.underlying22 hi v S.length (flatO S) hown
    unfold Oper.wp execOp
    have hx' : act.eval x = .slice none 0 0 := hx
    simp only [ho, resolve, invoke, builtin, Sem.run_bind, Sem.run_pure, Result.andThen_ok, List.map_toArray, List.map_cons, List.map_nil, hs, hx', hr]
    refine h v w ?_ ⟨rfl, rfl, rfl, Nat.le_refl _, fun _ _ _ => rfl⟩
    rw [show lstO g 0 = [] from rfl, List.append_nil]
    exact hown
  | some ad =>
    refine wp_append_own w s x 22 ho base 24 i0 _ 3 24 Try.underlying22 hi hz0 hz1 hz2 rfl (by decide) v S.length (flatO S) hs hown ad m cap (flatO (lstO g m)) hx (by rw [flatO_len, hll]) (fun j q hq => ?_) (flatO_one _) m1 (by omega) hbase ?_
    · have hj := (List.getElem?_eq_some_iff.1 hq).1
      rw [flatO_len, hll] at hj
      obtain ⟨b, oo, he, h4⟩ := h3 (by omega)
      obtain rfl : ad = ⟨b, oo, none⟩ := by simpa using he
      rw [flatO_get _ j (by rw [hll]; exact hj), List.getD_eq_getElem?_getD, lstO_get g m (j / 3) (by omega)] at hq
      rw [← hq, Go.WideShapes.add_plain]
      have hm : j % 3 = 0 ∨ j % 3 = 1 ∨ j % 3 = 2 := by omega
      have hd : j / 3 * 3 + j % 3 = j := by omega
      have hlt : j / 3 < m := by omega
      generalize j / 3 = i3 at *
      obtain ⟨k0, k1, k2⟩ := h4 i3 hlt
      rcases hm with e | e | e
      · rw [e] at hd ⊢; rw [← hd, Nat.add_zero]; exact k0
      · rw [e] at hd ⊢; rw [← hd, ← Nat.add_assoc]; exact k1
      · rw [e] at hd ⊢; rw [← hd, ← Nat.add_assoc]; exact k2
    · intro v' w' g1 g2 _
      refine h v' w' ?_ g2
      unfold OwnO
      rw [← flatO_app] at g1
      rw [List.length_append, hll]
      exact g1
theorem step_append_opsG {w : World} {ops : Array Oper} {o : Oper} {act : Act} {K : Act → World → Prop} {Q : Exit → Act → World → Prop} {X : Prop} (hgd : o.guard = Option.none) (s x : Operand)
    (ho : o.op = .call { callee := .builtin .append, args := #[s, x], argTypes := #[22, 22] }) (base : Nat) (v u : Value) (S : List (Int × Int × Int)) (m : Nat) (g : Nat → Int × Int × Int)
    (hs : act.eval s = v) (hown : OwnO w base v S) (hx : act.eval x = u) (hr : Ops w u m g) (hn : S.length + m ≤ 100000) (hbase : base ≤ w.heap.size)
    (h : ∀ v' w', OwnO w' base v' (S ++ lstO g m) → w.grownBy w' v.ownBlock → K (act.put o.dst v') w') :
    if Region.wanted o (yielded ops act.tmps) = true then Oper.wp Try.prog o act w K Q else X := by
  have hw : Region.wanted o (yielded ops act.tmps) = true := by simp [Region.wanted, hgd]
  rw [if_pos hw]
  exact wp_append_opsG s x ho base v u S m g hs hown hx hr hn hbase h
theorem ops_one14 (w : World) (a b c : Int) : Ops (w.alloc (.cells #[.int .i64 a, .int .i64 b, .int .i64 c] 24)).drew (.slice (some ⟨w.heap.size, 0, none⟩) 1 1) 1 (fun _ => (a, b, c)) :=
  ⟨_, 1, rfl, Nat.le_refl _, by unfold maxLen; omega, fun e => (by cases e), fun _ => ⟨w.heap.size, 0, rfl, fun i hi => by
    obtain rfl : i = 0 := by omega
    have h := Thr.new w a b c 24
    exact ⟨h.1, h.2.1, h.2.2⟩⟩⟩
end Go.Proofs.Ytcdkocdjbpebpaa
