/- Texts that belong together, one behind the other: B4, B5, B6, B7, B9, B10, B13, B14, D1. -/
import Derived.Test.YtmiakknagjncpaaGreatDoorY6
import Derived.Test.YtmiakknagjncpaaGreatDoorY2
import Derived.Test.YtmiakknagjncpaaGreatDoorY5
import Derived.Deep.RegionHeld3
import Derived.Test.YtmiakknagjncpaaGreatDoorV6
import Derived.Test.YtmiakknagjncpaaGreatDoorY1
import Derived.Laws.AppendOwnNone
/- The least period of units: Of of package period goes through a task's periods. -/
namespace Go.Proofs.YtmiakknagjncpaaGreatDoor
open Go.RowKit Go.Shelf
attribute [local go_sem] Oper.semAt_some

theorem keeps_below {W W' : World} (h : Below W.heap.size W W') : KeepsOthers W W' := ⟨h.size, fun k _ hk _ => (h.block k (Array.getElem?_eq_some_iff.1 hk).1).trans hk⟩
theorem ofAt_own {β : Type} (n : Nat) (s : Sp) (u : Int) (p : β → Int) (b : Bool) : Own (fun (q : β) W => OfAt W n s u (p q) b) := fun q W W' row hs hg hr =>
  ⟨fun i hi => ⟨cell_kept (hs.sp i hi).1 hg hr, (frozen_kept (hs.sp i hi).1 hg hr).trans (hs.sp i hi).2⟩, boxed_own _ _ (fun _ => _) q W W' row hs.un hg hr, boxed_own _ _ (fun _ => _) q W W' row hs.pe hg hr, boxed_own _ _ (fun _ => _) q W W' row hs.is hg hr⟩

/-- None of what came has no more than u units. -/
def NoneYet (s : Sp) (u : Int) (pre : List Int) : Prop := ∀ y ∈ pre, ¬ atV s y ≤ u
/-- The last of what came is the first one that has no more than u units. -/
def LastIs (s : Sp) (u : Int) (pre : List Int) (y : Int) : Prop := ∃ q, pre = q ++ [y] ∧ NoneYet s u q ∧ atV s y ≤ u
theorem find_none {s : Sp} {u : Int} {l : List Int} (h : NoneYet s u l) : l.find? (fun p => decide (atV s p ≤ u)) = none := by
  rw [List.find?_eq_none]; intro y hy; simpa using h y hy
theorem find_last {s : Sp} {u y : Int} {l r : List Int} (h : LastIs s u l y) : (l ++ r).find? (fun p => decide (atV s p ≤ u)) = some y := by
  obtain ⟨q, rfl, h1, h2⟩ := h
  rw [List.append_assoc, List.find?_append, find_none h1]
  simp [h2]
theorem lst7_split {k N : Nat} (h : k ≤ N) (g : Nat → Int) : ∃ r, lst7 N g = lst7 k g ++ r := by
  refine ⟨(List.range' k (N - k)).map g, ?_⟩
  unfold lst7
  rw [← List.map_append]
  congr 1
  rw [List.range_eq_range', List.range_eq_range']
  have := List.range'_append_1 (s := 0) (m := k) (n := N - k)
  rw [Nat.zero_add] at this
  rw [this]; congr 1; omega

set_option maxHeartbeats 2000000 in
set_option maxRecDepth 100000 in
theorem of_in (c t x m k e u : Int) (w : World) (h1 : maySp ⟨c, t, x, m, k, e⟩ = true) (h2 : wiB u 1 1048576 = true) :
    Calls Tryz.prog 27 #[.agg #[.int .i64 c, .int .i64 t, .int .i64 x, .int .i64 m, .int .i64 k, .int .i64 e], .int .i64 u] w fun r w' => r = .returned (.tuple #[.int .i64 (ofP ⟨c, t, x, m, k, e⟩ u), .bool (ofB ⟨c, t, x, m, k, e⟩ u)]) ∧ Below w.heap.size w w' := by
  have hN := per_runs h1
  have HE := of_yes h1 h2
  obtain ⟨N, hNN⟩ : ∃ N, perN ⟨c, t, x, m, k, e⟩ = N := ⟨_, rfl⟩
  have HE' : Hid (ofO ⟨c, t, x, m, k, e⟩ u = (lst7 N (rn t 1)).find? (fun p => decide (atV ⟨c, t, x, m, k, e⟩ p ≤ u))) := by show _ = _; rw [HE, ← hNN]; rfl
  rw [hNN] at hN
  clear HE hNN
  have H1 : Hid (maySp ⟨c, t, x, m, k, e⟩ = true) := h1
  have H2 : Hid (wiB u 1 1048576 = true) := h2
  clear h1 h2
  refine (callsIn_wide (n := 4)).1 ?_
  refine callsIn_of_wp_marks Tryz.func27 rfl trivial ?_ rfl
  simp only [Tryz.ntmps27, List.size_toArray, List.length_cons, List.length_nil, Nat.reduceAdd, Nat.reduceSub, Array.replicate_succ, Array.replicate_zero, List.push_toArray, List.append_toArray, List.nil_append, List.cons_append]
  have hO := OfAt.new w c t x m k e u
  have hb0 : Below w.heap.size w ((((w.alloc (.cells #[.int .i64 c, .int .i64 t, .int .i64 x, .int .i64 m, .int .i64 k, .int .i64 e] 38)).alloc (.cells #[.int .i64 u] 3)).alloc (.cells #[.int .i64 0] 3)).alloc (.cells #[.bool false] 4)) := ((((Below.refl _ w).alloc (Nat.le_refl _) _).alloc (by simp) _).alloc (by simp; omega) _).alloc (by simp; omega) _
  gi_wp2_with fail
  refine ⟨trivial, (callsIn_wide.2 (spmay_any c t x m k e _)).mono ?_⟩
  rintro r w1 ⟨rfl, hb1⟩
  have hO1 := hO.later hb1
  replace hb1 := hb0.trans (hb1.mono hb0.size)
  clear hO hb0
  obtain ⟨a0, a1, a2, a3, a4, a5, b0, b1, b2, b3, b4, b5⟩ := hO1.sp.sp
  have cU := hO1.un.cell
  rw [H1.out]
  gi_wp2_with fail
  refine ⟨trivial, (callsIn_wide.2 (pwithin_any u 1 1048576 _)).mono ?_⟩
  rintro r w2 ⟨rfl, hw⟩
  obtain rfl := hw.symm
  rw [H2.out]
  gi_wp2_with fail
  refine ⟨trivial, (callsIn_wide.2 (periods_any c t x m k e _)).mono ?_⟩
  rintro r w3 ⟨sq, rfl, hs, hb3⟩
  have hO3 := hO1.later hb3
  replace hb3 := hb1.trans (hb3.mono hb1.size)
  clear hO1 hb1 a0 a1 a2 a3 a4 a5 b0 b1 b2 b3 b4 b5 cU
  obtain ⟨Bh, Br, rfl, g1, g2⟩ := hs
  gi_wp2_with fail
  refine wpIn_rangeFunc_ownG rfl (by omega) (gf := 100) (lb := #[.pointer (some ⟨Bh, 0, none⟩), .pointer (some ⟨Br, 0, none⟩)]) rfl trivial (enters_of Tryz.func100 (by kernel_rfl) rfl)
    (seq_stops _ Bh Br t 1 x N hN _ g1 g2) runKept_t runKept_b (Below.refl _ _) (fun _ => rfl)
    (fun pre W => (OfAt W w.heap.size ⟨c, t, x, m, k, e⟩ u 0 false ∧ NoneYet ⟨c, t, x, m, k, e⟩ u pre) ∧ Below w.heap.size w W)
    (fun c0 pre W => (∃ y, OfAt W w.heap.size ⟨c, t, x, m, k, e⟩ u y true ∧ c0 = .ret ∧ LastIs ⟨c, t, x, m, k, e⟩ u pre y) ∧ Below w.heap.size w W)
    (OwnFrom.and (OwnFrom.and (Own.from (ofAt_own _ _ _ (fun _ => 0) _) _) (ownFrom_pure _ _)) (ownFrom_below (Nat.le_refl _) hb3.size))
    (fun c0 => OwnFrom.and (fun pre W W' row ⟨y, hs, hq⟩ hg hr => ⟨y, Own.from (ofAt_own (β := List Int) _ _ _ (fun _ => y) _) w3.heap.size pre W W' row hs hg hr, hq⟩) (ownFrom_below (Nat.le_refl _) hb3.size))
    ⟨⟨hO3, fun y hy => by cases hy⟩, hb3⟩
    (fun p => { tmps := #[.agg #[.int .i64 c, .int .i64 t, .int .i64 x, .int .i64 m, .int .i64 k, .int .i64 e], .int .i64 u, .pointer (some ⟨w.heap.size, 0, none⟩), .pointer (some ⟨w.heap.size + 1, 0, none⟩), .pointer (some ⟨w.heap.size + 1 + 1, 0, none⟩), .pointer (some ⟨w.heap.size + 1 + 1 + 1, 0, none⟩), .int .i64 p, .agg #[.int .i64 c, .int .i64 t, .int .i64 x, .int .i64 m, .int .i64 k, .int .i64 e], .bool true, .bool false, .bool false, .int .i64 u, .bool true, .bool false, .bool false, .agg #[.int .i64 c, .int .i64 t, .int .i64 x, .int .i64 m, .int .i64 k, .int .i64 e], .func (.func 100) #[] #[.pointer (some ⟨Bh, 0, none⟩), .pointer (some ⟨Br, 0, none⟩)], .int .i64 p, undef, undef, undef, undef, undef, undef], defers := [] }) ?assign ?body ?done ?stop
  case assign =>
    intro l p W K hK
    gi_wp2
    exact hK
  case body =>
    rintro l pre p W ⟨⟨hO, hall⟩, hB⟩ hlt
    obtain ⟨a0, a1, a2, a3, a4, a5, b0, b1, b2, b3, b4, b5⟩ := hO.sp.sp
    have cU := hO.un.cell
    have hmx : Tryz.prog.follows .mixedOrders = true := by kernel_rfl
    obtain ⟨a, ha⟩ : ∃ a, atV ⟨c, t, x, m, k, e⟩ p = a := ⟨_, rfl⟩
    have HA : Hid (atV ⟨c, t, x, m, k, e⟩ p = a) := ha
    clear ha
    by_cases hau : a ≤ u
    · gi_wp2_with fail
      gi_region_with_o (refine ⟨trivial, ?_⟩; gi_at_call 37; refine (CallsIn.inRound l (callsIn_wide.2 (at_any c t x m k e p _))).mono ?_; rintro r w4 ⟨rfl, hw4⟩; rw [HA.out]; have cU4 : w4.cell? ⟨w.heap.size + 1, 0, none⟩ = some (.int .i64 u) := cell_later hw4 cU)
      all_goals
        have hb4 : Below W.heap.size W w4 := ((Below.refl _ W).drew).trans hw4
        have hO4 := hO.later hb4
        have cP := hO4.pe.cell
        have dP := hO4.pe.frozen
        have cB := hO4.is.cell
        have dB := hO4.is.frozen
        gi_wp2_with fail
        exact ⟨(((keeps_below hb4).trans (KeepsOthers.setCell _ _ _)).trans (KeepsOthers.setCell _ _ _)).from _, ⟨p, hO4.put, rfl, pre, rfl, hall, by rw [HA.out]; exact hau⟩, two_below (hB.trans (hb4.mono hB.size)) (Nat.le_refl _)⟩
    · gi_wp2_with fail
      gi_region_with_o (refine ⟨trivial, ?_⟩; gi_at_call 37; refine (CallsIn.inRound l (callsIn_wide.2 (at_any c t x m k e p _))).mono ?_; rintro r w4 ⟨rfl, hw4⟩; rw [HA.out]; have cU4 : w4.cell? ⟨w.heap.size + 1, 0, none⟩ = some (.int .i64 u) := cell_later hw4 cU)
      all_goals
        have hb4 : Below W.heap.size W w4 := ((Below.refl _ W).drew).trans hw4
        have hO4 := hO.later hb4
        gi_wp2_with fail
        exact ⟨(keeps_below hb4).from _, RunKept.of_below hb4, ⟨hO4, fun y hy => (List.mem_append.1 hy).elim (hall y) (fun e' => by simp at e'; subst e'; rw [HA.out]; omega)⟩, hB.trans (hb4.mono hB.size)⟩
  case done =>
    rintro D ys W hD rfl ⟨⟨hO, hall⟩, hB⟩ hK
    have cP := hO.pe.cell
    have dP := hO.pe.frozen
    have cB := hO.is.cell
    have dB := hO.is.frozen
    gi_wp2_with fail
    have hK' := ((KeepsOthers.setCell W ⟨w.heap.size + 1 + 1, 0, none⟩ (.int .i64 0)).trans (KeepsOthers.setCell _ ⟨w.heap.size + 1 + 1 + 1, 0, none⟩ (.bool false))).same D _ hK rfl
    refine ⟨by simp, .inl ⟨_, _, rfl, run_takeDeferred hK', ?_⟩⟩
    have hR := ofAt_own (β := Unit) _ _ _ (fun _ => 0) _ () _ _ _ (OfAt.put (p' := 0) (b' := false) hO) (grownBy_putObj' _ D (.deferred none)) (fun r e => by cases e; exact ⟨_, hK', rfl⟩)
    have z1 := hR.pe.cell
    have z2 := hR.is.cell
    have HF : ofO ⟨c, t, x, m, k, e⟩ u = none := by rw [HE'.out]; exact find_none hall
    refine ⟨.tuple #[.int .i64 0, .bool false], ?_, by unfold ofP ofB; rw [HF]; rfl, (two_below hB (Nat.le_refl _)).trans (belowK_b (w := w) (Nat.le_refl _) _ D _ _ (Nat.le_trans hb3.size hD) hK' rfl rfl)⟩
    simp [results, Tryz.results27, go_sem, z1, z2]
  case stop =>
    rintro D c0 pre W hD ⟨k0, hk0, rfl⟩ ⟨⟨y, hO, rfl, hl⟩, hB⟩ hK
    gi_wp2_with fail
    refine ⟨by simp, .inl ⟨_, _, rfl, run_takeDeferred hK, ?_⟩⟩
    have hR := ofAt_own (β := Unit) _ _ _ (fun _ => y) _ () _ _ _ hO (grownBy_putObj' _ D (.deferred none)) (fun r e => by cases e; exact ⟨_, hK, rfl⟩)
    have z1 := hR.pe.cell
    have z2 := hR.is.cell
    have HF : ofO ⟨c, t, x, m, k, e⟩ u = some y := by
      obtain ⟨r, hr⟩ := lst7_split hk0 (rn t 1)
      rw [HE'.out, hr]; exact find_last hl
    refine ⟨.tuple #[.int .i64 y, .bool true], ?_, by unfold ofP ofB; rw [HF]; rfl, hB.trans (belowK_b (w := w) (Nat.le_refl _) _ D _ _ (Nat.le_trans hb3.size hD) hK rfl rfl)⟩
    simp [results, Tryz.results27, go_sem, z1, z2]

theorem perOf_any (c t x m k e u : Int) (w : World) :
    Calls Tryz.prog 27 #[.agg #[.int .i64 c, .int .i64 t, .int .i64 x, .int .i64 m, .int .i64 k, .int .i64 e], .int .i64 u] w fun r w' => r = .returned (.tuple #[.int .i64 (ofP ⟨c, t, x, m, k, e⟩ u), .bool (ofB ⟨c, t, x, m, k, e⟩ u)]) ∧ Below w.heap.size w w' := by
  cases h1 : maySp ⟨c, t, x, m, k, e⟩ with
  | false => unfold ofP ofB; rw [of_no1 h1]; exact of_out1 c t x m k e u w h1
  | true =>
    cases h2 : wiB u 1 1048576 with
    | false => unfold ofP ofB; rw [of_no2 h2]; exact of_out2 c t x m k e u w h1 h2
    | true => exact of_in c t x m k e u w h1 h2
end Go.Proofs.YtmiakknagjncpaaGreatDoor
/- Walks of All, near and Ends of package period. -/
namespace Go.Proofs.YtmiakknagjncpaaGreatDoor
open Go.RowKit Go.Shelf

/-- A list of the call's own. -/
def OwnL (w : World) (base : Nat) (v : Value) (xs : List Int) : Prop := w.ownsRow base 3 1 v xs.length (ivs xs)
theorem OwnL.nums {w : World} {base : Nat} {v : Value} {xs : List Int} (h : OwnL w base v xs) : Nums w v xs := (Nums.own h).1
theorem OwnL.nil (w : World) (base : Nat) : OwnL w base (.slice none 0 0) [] := World.ownsRow_nil _ _ _ _
theorem OwnL.lower {w : World} {b b' : Nat} {v : Value} {xs : List Int} (h : OwnL w b v xs) (hb : b' ≤ b) : OwnL w b' v xs := by
  obtain ⟨h1, h2⟩ := h
  refine ⟨h1, ?_⟩
  rcases h2 with h2 | ⟨g, cap, cur, h3, h4, h5⟩
  · exact .inl h2
  · exact .inr ⟨g, cap, cur, h3, Nat.le_trans hb h4, h5⟩

/-- The periods that a task may have. -/
def allL (s : Sp) : List Int := bif maySp s then perL s else []
theorem all_no {s : Sp} (h : maySp s = false) : allL s = [] := by unfold allL; rw [h]; rfl
theorem all_yes {s : Sp} (h : maySp s = true) : allL s = perL s := by unfold allL; rw [h]; rfl
set_option maxHeartbeats 1000000 in
set_option maxRecDepth 100000 in
theorem perAll_any (c t x m k e : Int) (w : World) :
    Calls Tryz.prog 76 #[.agg #[.int .i64 c, .int .i64 t, .int .i64 x, .int .i64 m, .int .i64 k, .int .i64 e]] w fun r w' => ∃ v, r = .returned v ∧ OwnL w' w.heap.size v (allL ⟨c, t, x, m, k, e⟩) ∧ Below w.heap.size w w' := by
  have hS : Six (w.alloc (.cells #[.int .i64 c, .int .i64 t, .int .i64 x, .int .i64 m, .int .i64 k, .int .i64 e] 38)) w.heap.size (Sp.at ⟨c, t, x, m, k, e⟩) := Six.new w ⟨c, t, x, m, k, e⟩
  cases h1 : maySp ⟨c, t, x, m, k, e⟩ with
  | false =>
    have H1 : Hid (maySp ⟨c, t, x, m, k, e⟩ = false) := h1
    rw [all_no h1]
    clear h1 hS
    go_enter Tryz.func76, Tryz.ntmps76
    go_wp2_with fail
    refine (spmay_any c t x m k e _).mono ?_
    rintro r w1 ⟨rfl, hb1⟩
    rw [H1.out]
    go_wp2_with fail
    go_ret
    exact ⟨_, rfl, OwnL.nil _ _, ((Below.refl _ _).alloc (by simp) _).trans (hb1.mono (by simp))⟩
  | true =>
    have hN := per_runs h1
    have hN1 : perN ⟨c, t, x, m, k, e⟩ ≤ 100000 := by
      obtain ⟨c0, c1, f2, f3, f4, _⟩ := may_facts h1
      unfold perN; simp only at *; omega
    have HL : Hid (allL ⟨c, t, x, m, k, e⟩ = lst7 (perN ⟨c, t, x, m, k, e⟩) (rn t 1)) := all_yes h1
    have H1 : Hid (maySp ⟨c, t, x, m, k, e⟩ = true) := h1
    clear h1
    go_enter Tryz.func76, Tryz.ntmps76
    go_wp2_with fail
    refine (spmay_any c t x m k e _).mono ?_
    rintro r w1 ⟨rfl, hb1⟩
    have hS1 := hS.later hb1
    replace hb1 : Below w.heap.size w w1 := ((Below.refl _ _).alloc (by simp) _).trans (hb1.mono (by simp))
    obtain ⟨a0, a1, a2, a3, a4, a5, b0, b1, b2, b3, b4, b5⟩ := hS1.sp
    clear hS
    rw [H1.out]
    go_wp2_with fail
    refine (periods_any c t x m k e _).mono ?_
    rintro r w2 ⟨sq, rfl, hs, hb2⟩
    replace hb2 := hb1.trans (hb2.mono hb1.size)
    clear hb1 hS1 a0 a1 a2 a3 a4 a5 b0 b1 b2 b3 b4 b5
    go_wp2_with fail
    refine (perlist_any t 1 x _ hN hN1 sq _ hs).mono ?_
    rintro r w3 ⟨v, rfl, hv, hb3⟩
    replace hb3 := hb2.trans (hb3.mono hb2.size)
    have hv' : OwnL w3 w.heap.size v (allL ⟨c, t, x, m, k, e⟩) := by
      rw [HL.out]
      refine OwnL.lower (b := w2.heap.size) ?_ hb2.size
      unfold OwnL
      rw [lst7_len]; exact hv
    clear hv
    go_wp2_with fail
    go_ret
    exact ⟨v, rfl, hv', hb3⟩

section
variable (c t x m k e p f u : Int)
end
end Go.Proofs.YtmiakknagjncpaaGreatDoor
/- The document's own answers of chapter 8: walks of Of, All and Ends; the chapter's example. -/
namespace Go.Proofs.YtmiakknagjncpaaGreatDoor
open Go.RowKit Go.Shelf
theorem at_le {s : Sp} {p u : Int} (h : maySp s = true) (h' : wiB p s.t s.x = true) : atV s p ≤ u ↔ s.c * s.m * 1048576 ≤ u * s.k * p := by
  obtain ⟨c0, c1, f2, f3, f4, ⟨m0, m1, k1⟩, _⟩ := may_facts h
  obtain ⟨p0, p1⟩ := of_decide_eq_true h'
  have e : atV s p = cl (s.c * s.m * 1048576) (s.k * p) := by unfold atV atB; rw [h, h']; rfl
  have hkp : 1 ≤ s.k * p := by
    have h1 : 1 * 1 ≤ s.k * p := Int.mul_le_mul (by omega) (by omega) (by omega) (by omega)
    omega
  rw [e, Int.mul_assoc u]
  refine ⟨fun hle => ?_, fun hle => cl_le_of hkp hle⟩
  have h1 := cl_ge (a := s.c * s.m * 1048576) hkp
  have h2 : cl (s.c * s.m * 1048576) (s.k * p) * (s.k * p) ≤ u * (s.k * p) := Int.mul_le_mul_of_nonneg_right hle (by omega)
  omega

theorem none_step {s : Sp} {u : Int} {l : List Int} {y : Int} (h : NoneYet s u l) (hy : ¬ atV s y ≤ u) : NoneYet s u (l ++ [y]) := fun z hz => (List.mem_append.1 hz).elim (h z) (fun e => by simp at e; subst e; exact hy)
theorem per_len {s : Sp} (h : maySp s = true) : ((perN s : Nat) : Int) = s.x - s.t + 1 := by
  obtain ⟨c0, c1, f2, f3, f4, _⟩ := may_facts h
  unfold perN; omega
theorem of_found {s : Sp} {u : Int} {j : Nat} (h : maySp s = true) (h' : wiB u 1 1048576 = true) (hj : j < perN s) (hn : NoneYet s u (lst7 j (rn s.t 1))) (hy : atV s (rn s.t 1 j) ≤ u) : ofO s u = some (rn s.t 1 j) := by
  rw [of_yes h h']
  obtain ⟨r, hr⟩ := lst7_split (show j + 1 ≤ perN s by omega) (rn s.t 1)
  unfold perL
  rw [hr]
  exact find_last ⟨_, lst7_succ _ _, hn, hy⟩

set_option maxHeartbeats 1000000 in
set_option maxRecDepth 100000 in
theorem refPerOf_in (c t x m k e u : Int) (w : World) (h1 : maySp ⟨c, t, x, m, k, e⟩ = true) (u0 : 1 ≤ u) (u1 : u ≤ 1048576) :
    Calls Tryz.prog 30 #[.agg #[.int .i64 c, .int .i64 t, .int .i64 x, .int .i64 m, .int .i64 k, .int .i64 e], .int .i64 u] w fun r w' => r = .returned (.tuple #[.int .i64 (ofP ⟨c, t, x, m, k, e⟩ u), .bool (ofB ⟨c, t, x, m, k, e⟩ u)]) ∧ Below w.heap.size w w' := by
  have hS : Six (w.alloc (.cells #[.int .i64 c, .int .i64 t, .int .i64 x, .int .i64 m, .int .i64 k, .int .i64 e] 38)) w.heap.size (Sp.at ⟨c, t, x, m, k, e⟩) := Six.new w ⟨c, t, x, m, k, e⟩
  have h2 : wiB u 1 1048576 = true := decide_eq_true ⟨u0, u1⟩
  have HF : Hid (∀ j, j < perN ⟨c, t, x, m, k, e⟩ → NoneYet ⟨c, t, x, m, k, e⟩ u (lst7 j (rn t 1)) → atV ⟨c, t, x, m, k, e⟩ (rn t 1 j) ≤ u → ofO ⟨c, t, x, m, k, e⟩ u = some (rn t 1 j)) := fun j hj hn hy => of_found h1 h2 hj hn hy
  have HN : Hid (NoneYet ⟨c, t, x, m, k, e⟩ u (lst7 (perN ⟨c, t, x, m, k, e⟩) (rn t 1)) → ofO ⟨c, t, x, m, k, e⟩ u = none) := fun hn => by rw [of_yes h1 h2]; exact find_none hn
  have HA : Hid (∀ p, t ≤ p → p ≤ x → (atV ⟨c, t, x, m, k, e⟩ p ≤ u ↔ c * m * 1048576 ≤ u * k * p)) := fun p q0 q1 => at_le h1 (decide_eq_true ⟨q0, q1⟩)
  have hN := per_len h1
  obtain ⟨N, hNN⟩ : ∃ N, perN ⟨c, t, x, m, k, e⟩ = N := ⟨_, rfl⟩
  rw [hNN] at HF HN hN
  clear hNN
  obtain ⟨c0, c1, f2, f3, f4, ⟨m0, m1, k1⟩, _⟩ := may_facts h1
  simp only at hN c0 c1 f2 f3 f4 m0 m1 k1
  have hcm : 1 ≤ c * m ∧ c * m ≤ 36 := by rcases six c0 c1 with rfl | rfl | rfl | rfl | rfl | rfl <;> omega
  have huk : 1 ≤ u * k ∧ u * k ≤ 6291456 := by rcases six (show 1 ≤ k by omega) k1 with rfl | rfl | rfl | rfl | rfl | rfl <;> omega
  have H1 : Hid (maySp ⟨c, t, x, m, k, e⟩ = true) := h1
  clear h1 h2
  go_enter Tryz.func30, Tryz.ntmps30
  go_wp2_with fail
  refine (refSp_any c t x m k e _).mono ?_
  rintro r w1 ⟨rfl, hb1⟩
  have hS1 := hS.later hb1
  replace hb1 : Below w.heap.size w w1 := ((Below.refl _ _).alloc (by simp) _).trans (hb1.mono (by simp))
  obtain ⟨a0, a1, a2, a3, a4, a5, b0, b1, b2, b3, b4, b5⟩ := hS1.sp
  clear hS
  rw [H1.out]
  go_wp2_with fail
  go_loop [7] (fun v => ∃ j : Nat, j ≤ N ∧ v = .int .i64 (t + j) ∧ Hid (NoneYet ⟨c, t, x, m, k, e⟩ u (lst7 j (rn t 1)))) (fun v => (x + 1 - intOf v).toNat)
  case atStart => exact ⟨0, Nat.zero_le _, by simp, (fun z hz => by simp [lst7] at hz)⟩
  case round =>
    obtain ⟨j, hj, rfl, HG⟩ := hrel
    have er : rn t 1 j = t + j := by unfold rn; omega
    have HR : Hid (rn t 1 j = t + j) := er
    clear er
    by_cases hlt : j < N
    · obtain ⟨p, hp⟩ : ∃ p, t + (j : Int) = p := ⟨_, rfl⟩
      have HP : Hid (t + (j : Int) = p) := hp
      have p0 : t ≤ p := by omega
      have p1 : p ≤ x := by omega
      rw [hp] at HR ⊢
      clear hp
      have hq := HA.out p p0 p1
      have hukp : 1 ≤ u * k * p ∧ u * k * p ≤ 301989888 := by
        have g1 : 1 * 1 ≤ u * k * p := Int.mul_le_mul huk.1 (by omega) (by omega) (by omega)
        have g2 : u * k * p ≤ 6291456 * 48 := Int.mul_le_mul huk.2 (by omega) (by omega) (by omega)
        omega
      have e1 : IntKind.i64.wrap (c * m) = c * m := by rw [IntKind.wrap_i64]; omega
      have e2 : IntKind.i64.wrap (c * m * 1048576) = c * m * 1048576 := by rw [IntKind.wrap_i64]; omega
      have e3 : IntKind.i64.wrap (u * k) = u * k := by rw [IntKind.wrap_i64]; omega
      have e4 : IntKind.i64.wrap (u * k * p) = u * k * p := by rw [IntKind.wrap_i64]; omega
      have HQ : Hid (atV ⟨c, t, x, m, k, e⟩ p ≤ u ↔ c * m * 1048576 ≤ u * k * p) := hq
      clear hq
      by_cases hle : c * m * 1048576 ≤ u * k * p
      · have HO : Hid (ofO ⟨c, t, x, m, k, e⟩ u = some p) := by
          have := HF.out j hlt HG.out (by rw [HR.out]; exact HQ.out.2 hle)
          rw [HR.out] at this; exact this
        go_wp2_with fail
        go_ret2
        exact ⟨by unfold ofP ofB; rw [HO.out]; rfl, hb1⟩
      · have HG' : Hid (NoneYet ⟨c, t, x, m, k, e⟩ u (lst7 (j + 1) (rn t 1))) := by
          show NoneYet _ _ _
          rw [lst7_succ, HR.out]; exact none_step HG.out (fun h => hle (HQ.out.1 h))
        go_wp2_with fail
        go_round
        case rel => exact ⟨j + 1, by omega, by have := HP.out; simp; omega, HG'⟩
        case measure => simp [intOf]; omega
    · obtain rfl : j = N := by omega
      have HO : Hid (ofO ⟨c, t, x, m, k, e⟩ u = none) := HN.out HG.out
      have g1 : ¬ (t + (j : Int)) ≤ x := by omega
      go_wp2_with fail
      go_ret2
      exact ⟨by unfold ofP ofB; rw [HO.out]; rfl, hb1⟩
end Go.Proofs.YtmiakknagjncpaaGreatDoor
/- The document's own answers of chapter 8: where there is no period, all periods, and when jobs end. -/
namespace Go.Proofs.YtmiakknagjncpaaGreatDoor
open Go.RowKit Go.Shelf

set_option maxHeartbeats 1000000 in
set_option maxRecDepth 100000 in
theorem refPerOf_no (c t x m k e u : Int) (w : World) (h : (maySp ⟨c, t, x, m, k, e⟩ && wiB u 1 1048576) = false) :
    Calls Tryz.prog 30 #[.agg #[.int .i64 c, .int .i64 t, .int .i64 x, .int .i64 m, .int .i64 k, .int .i64 e], .int .i64 u] w fun r w' => r = .returned (.tuple #[.int .i64 0, .bool false]) ∧ Below w.heap.size w w' := by
  have hb0 : Below w.heap.size w (w.alloc (.cells #[.int .i64 c, .int .i64 t, .int .i64 x, .int .i64 m, .int .i64 k, .int .i64 e] 38)) := (Below.refl _ _).alloc (Nat.le_refl _) _
  cases h1 : maySp ⟨c, t, x, m, k, e⟩ with
  | false =>
    have H1 : Hid (maySp ⟨c, t, x, m, k, e⟩ = false) := h1
    clear h h1
    go_enter Tryz.func30, Tryz.ntmps30
    go_wp2_with fail
    refine (refSp_any c t x m k e _).mono ?_
    rintro r w1 ⟨rfl, hb1⟩
    replace hb1 := hb0.trans (hb1.mono hb0.size)
    rw [H1.out]
    go_wp2_with fail
    go_ret2
    exact ⟨rfl, hb1⟩
  | true =>
    rw [h1, Bool.true_and] at h
    have hu := of_decide_eq_false (show decide (1 ≤ u ∧ u ≤ 1048576) = false from h)
    have H1 : Hid (maySp ⟨c, t, x, m, k, e⟩ = true) := h1
    clear h h1
    by_cases u0 : u < 1
    · clear hu
      go_enter Tryz.func30, Tryz.ntmps30
      go_wp2_with fail
      refine (refSp_any c t x m k e _).mono ?_
      rintro r w1 ⟨rfl, hb1⟩
      replace hb1 := hb0.trans (hb1.mono hb0.size)
      rw [H1.out]
      go_wp2_with fail
      go_ret2
      exact ⟨rfl, hb1⟩
    · have u1 : 1048576 < u := by omega
      clear hu
      go_enter Tryz.func30, Tryz.ntmps30
      go_wp2_with fail
      refine (refSp_any c t x m k e _).mono ?_
      rintro r w1 ⟨rfl, hb1⟩
      replace hb1 := hb0.trans (hb1.mono hb0.size)
      rw [H1.out]
      go_wp2_with fail
      go_ret2
      exact ⟨rfl, hb1⟩

theorem refPerOf_any (c t x m k e u : Int) (w : World) :
    Calls Tryz.prog 30 #[.agg #[.int .i64 c, .int .i64 t, .int .i64 x, .int .i64 m, .int .i64 k, .int .i64 e], .int .i64 u] w fun r w' => r = .returned (.tuple #[.int .i64 (ofP ⟨c, t, x, m, k, e⟩ u), .bool (ofB ⟨c, t, x, m, k, e⟩ u)]) ∧ Below w.heap.size w w' := by
  cases h : (maySp ⟨c, t, x, m, k, e⟩ && wiB u 1 1048576) with
  | false => unfold ofP ofB ofO; rw [h]; exact refPerOf_no c t x m k e u w h
  | true =>
    rw [Bool.and_eq_true] at h
    have hu := of_decide_eq_true (show decide (1 ≤ u ∧ u ≤ 1048576) = true from h.2)
    exact refPerOf_in c t x m k e u w h.1 hu.1 hu.2

section
variable (c t x m k e p f u : Int)
end
end Go.Proofs.YtmiakknagjncpaaGreatDoor
/- What the statement PeriodTells comes to. -/
namespace Go.Proofs.YtmiakknagjncpaaGreatDoor
open Go.RowKit Go.Shelf

theorem all_len (s : Sp) : (allL s).length ≤ 100000 := by
  cases h : maySp s with
  | false => rw [all_no h]; exact Nat.zero_le _
  | true =>
    rw [all_yes h]
    unfold perL
    rw [lst7_len]
    obtain ⟨c0, c1, f2, f3, f4, _⟩ := may_facts h
    unfold perN; omega
end Go.Proofs.YtmiakknagjncpaaGreatDoor
/- What follows of the least period of units; what the statement PeriodUnits comes to. -/
namespace Go.Proofs.YtmiakknagjncpaaGreatDoor
open Go.RowKit Go.Shelf

theorem per_at {s : Sp} {j : Nat} (h : j < (perL s).length) : (perL s)[j] = rn s.t 1 j := by simp [perL, lst7]
theorem per_length (s : Sp) : (perL s).length = perN s := by unfold perL; rw [lst7_len]
/-- What is found is the first one. -/
theorem of_some {s : Sp} {u p : Int} (h : maySp s = true) (h' : wiB u 1 1048576 = true) (ho : ofO s u = some p) :
    s.t ≤ p ∧ p ≤ s.x ∧ atV s p ≤ u ∧ ∀ q, s.t ≤ q → q < p → ¬ atV s q ≤ u := by
  rw [of_yes h h'] at ho
  obtain ⟨h1, i, hi, rfl, h2⟩ := List.find?_eq_some_iff_getElem.1 ho
  have hN := per_len h
  have hl : i < perN s := by rwa [per_length] at hi
  rw [per_at hi] at h1 ⊢
  have e : rn s.t 1 i = s.t + i := by unfold rn; omega
  rw [e] at h1 ⊢
  refine ⟨by omega, by omega, by simpa using h1, fun q q0 q1 => ?_⟩
  have hj : (q - s.t).toNat < i := by omega
  have := h2 (q - s.t).toNat hj
  rw [per_at (by omega)] at this
  have e' : rn s.t 1 (q - s.t).toNat = q := by unfold rn; omega
  rw [e'] at this
  simpa using this
theorem of_none {s : Sp} {u : Int} (h : maySp s = true) (h' : wiB u 1 1048576 = true) (ho : ofO s u = none) {p : Int} (p0 : s.t ≤ p) (p1 : p ≤ s.x) : ¬ atV s p ≤ u := by
  rw [of_yes h h'] at ho
  have hN := per_len h
  have hj : (p - s.t).toNat < (perL s).length := by rw [per_length]; omega
  have := List.find?_eq_none.1 ho _ (List.getElem_mem hj)
  rw [per_at hj] at this
  have e' : rn s.t 1 (p - s.t).toNat = p := by unfold rn; omega
  rw [e'] at this
  simpa using this

theorem at_pos {s : Sp} {p : Int} (h : maySp s = true) (p0 : s.t ≤ p) (p1 : p ≤ s.x) : 1 ≤ atV s p ∧ atV s p ≤ 1048576 := by
  obtain ⟨c0, c1, f2, f3, f4, ⟨m0, m1, k1⟩, _⟩ := may_facts h
  have hw : wiB p s.t s.x = true := decide_eq_true ⟨p0, p1⟩
  have hcm : 1 * 1 ≤ s.c * s.m := Int.mul_le_mul c0 m0 (by omega) (by omega)
  constructor
  · have h1 := (at_le (u := atV s p) h hw).1 (Int.le_refl _)
    by_cases hz : 1 ≤ atV s p
    · exact hz
    · have h2 : atV s p * s.k ≤ 0 := Int.mul_nonpos_of_nonpos_of_nonneg (by omega) (by omega)
      have h3 : atV s p * s.k * p ≤ 0 := Int.mul_nonpos_of_nonpos_of_nonneg h2 (by omega)
      omega
  · refine (at_le h hw).2 ?_
    have h1 : s.c * s.m ≤ p * s.k := Int.mul_le_mul (by omega) m1 (by omega) (by omega)
    have e : 1048576 * s.k * p = p * s.k * 1048576 := by rw [Int.mul_assoc, Int.mul_comm, Int.mul_comm s.k p]
    rw [e]
    omega
theorem per_fall {s : Sp} {p q : Int} (h : maySp s = true) (p0 : s.t ≤ p) (pq : p ≤ q) (q1 : q ≤ s.x) : atV s q ≤ atV s p := by
  obtain ⟨c0, c1, f2, f3, f4, ⟨m0, m1, k1⟩, _⟩ := may_facts h
  have h1 := (at_le (u := atV s p) h (decide_eq_true ⟨p0, by omega⟩)).1 (Int.le_refl _)
  refine (at_le h (decide_eq_true ⟨by omega, q1⟩)).2 ?_
  have h2 := (at_pos h p0 (by omega)).1
  have h3 : 1 * 1 ≤ atV s p * s.k := Int.mul_le_mul h2 (by omega) (by omega) (by omega)
  have h4 : atV s p * s.k * p ≤ atV s p * s.k * q := Int.mul_le_mul_of_nonneg_left pq (by omega)
  omega
theorem least_at {s : Sp} (h : maySp s = true) : leastV s = atV s s.x := by
  obtain ⟨c0, c1, f2, f3, f4, _, e0, e1, f5⟩ := may_facts h
  unfold leastV
  by_cases he : s.e = 0
  · rw [if_pos he]
    rcases f5 with f5 | f5
    · exact absurd he f5
    · rw [f5]
  · rw [if_neg he]

/-- All that the statement asks. -/
theorem units_facts {s : Sp} {u : Int} (h : maySp s = true) (u0 : 1 ≤ u) (u1 : u ≤ 1048576) :
    (ofB s u = false ∧ ofP s u = 0 ∧ ¬ leastV s ≤ u) ∨ (ofB s u = true ∧ leastV s ≤ u ∧ s.t ≤ ofP s u ∧ ofP s u ≤ s.x ∧ atV s (ofP s u) ≤ u ∧ (ofP s u = s.t ∨ u < atV s (ofP s u - 1))) := by
  have h' : wiB u 1 1048576 = true := decide_eq_true ⟨u0, u1⟩
  obtain ⟨c0, c1, f2, f3, f4, _⟩ := may_facts h
  rw [least_at h]
  cases ho : ofO s u with
  | none => exact .inl ⟨by unfold ofB; rw [ho]; rfl, by unfold ofP; rw [ho]; rfl, of_none h h' ho f3 (Int.le_refl _)⟩
  | some p =>
    obtain ⟨g0, g1, g2, g3⟩ := of_some h h' ho
    have e : ofP s u = p := by unfold ofP; rw [ho]; rfl
    rw [e]
    refine .inr ⟨by unfold ofB; rw [ho]; rfl, Int.le_trans (per_fall h g0 g1 (Int.le_refl _)) g2, g0, g1, g2, ?_⟩
    by_cases hp : p = s.t
    · exact .inl hp
    · exact .inr (Int.not_le.1 (g3 (p - 1) (by omega) (by omega)))
theorem more_facts {s : Sp} {u v : Int} (h : maySp s = true) (u0 : 1 ≤ u) (uv : u ≤ v) (v1 : v ≤ 1048576) : ofB s u = true → ofB s v = true ∧ ofP s v ≤ ofP s u := by
  intro hu
  have h1 : wiB u 1 1048576 = true := decide_eq_true ⟨u0, by omega⟩
  have h2 : wiB v 1 1048576 = true := decide_eq_true ⟨by omega, v1⟩
  unfold ofB at hu
  obtain ⟨p, hp⟩ := Option.isSome_iff_exists.1 hu
  obtain ⟨g0, g1, g2, g3⟩ := of_some h h1 hp
  have ep : ofP s u = p := by unfold ofP; rw [hp]; rfl
  rw [ep]
  cases ho : ofO s v with
  | none => exact absurd (by omega : atV s p ≤ v) (of_none h h2 ho g0 g1)
  | some q =>
    obtain ⟨k0, k1, k2, k3⟩ := of_some h h2 ho
    have eq : ofP s v = q := by unfold ofP; rw [ho]; rfl
    rw [eq]
    refine ⟨by unfold ofB; rw [ho]; rfl, ?_⟩
    by_cases hq : q ≤ p
    · exact hq
    · exact absurd (by omega : atV s p ≤ v) (k3 p g0 (by omega))
end Go.Proofs.YtmiakknagjncpaaGreatDoor
/- What the statement PeriodEnds comes to. -/
namespace Go.Proofs.YtmiakknagjncpaaGreatDoor
open Go.RowKit Go.Shelf

theorem at_zero {s : Sp} {p : Int} (h : (maySp s && wiB p s.t s.x) = false) : atV s p = 0 := by unfold atV atB; rw [h]; rfl

section
variable (c t x m k e p f u : Int)
end
end Go.Proofs.YtmiakknagjncpaaGreatDoor
/- What the statement PeriodTwo comes to. -/
namespace Go.Proofs.YtmiakknagjncpaaGreatDoor
open Go.RowKit Go.Shelf

/-- One list of integers, the call's own, gets another one behind it: a step of a statement whose order is drawn. -/
theorem step_append_nums {w : World} {ops : Array Oper} {o : Oper} {act : Act} {K : Act → World → Prop} {Q : Exit → Act → World → Prop} {E : Prop} (hgd : o.guard = Option.none) (s x : Operand)
    (ho : o.op = .call { callee := .builtin .append, args := #[s, x], argTypes := #[51, 51] }) (base : Nat) (v u : Value) (n : Nat) (xs ys : List Int)
    (hs : act.eval s = v) (hown : w.ownsRow base 3 1 v n (ivs xs)) (hx : act.eval x = u) (hr : Nums w u ys) (hcap : NilCap u) (hn : n + ys.length ≤ 100000) (hbase : base ≤ w.heap.size)
    (h : ∀ v' w', w'.ownsRow base 3 1 v' (n + ys.length) (ivs (xs ++ ys)) → Below base w w' → K (act.put o.dst v') w') :
    if Region.wanted o (yielded ops act.tmps) = true then Oper.wp Tryz.prog o act w K Q else E := by
  have hw : Region.wanted o (yielded ops act.tmps) = true := by simp [Region.wanted, hgd]
  rw [if_pos hw]
  obtain ⟨i0, hi, hz0, hz1, hz2⟩ := info_parts Tryz.infoInt
  have hlow := hown.lt
  obtain ⟨a, cap, rfl, h1, h2, h3⟩ := hr
  have m1 : n + ys.length ≤ maxLen := by unfold maxLen; omega
  have main : ∀ (ad : Addr), a = some ad → (∀ j q, (ivs ys)[j]? = some q → w.cell? (ad.add j) = some q) → Oper.wp Tryz.prog o act w K Q := by
    intro ad ha hcells
    subst ha
    refine wp_append_own w s x 51 ho base 3 i0 _ 1 8 Tryz.underlying51 hi hz0 hz1 hz2 rfl (by decide) v n (ivs xs) hs hown ad ys.length cap (ivs ys) hx (by rw [ivs_len]; omega) hcells (ivs_one _) m1 (by omega) hbase ?_
    intro v' w' g1 g2 _
    rw [← ivs_app] at g1
    exact h v' w' g1 ((Below.refl _ _).grown g2 hbase fun k hk => (hlow k hk).1)
  cases ys with
  | nil =>
    cases a with
    | none =>
      obtain rfl := hcap cap rfl
      have hr := run_append_owned_none (P := Tryz.prog) (w := w) base 51 o.type 3 i0 1 Tryz.underlying51 hi v n (ivs xs) hown
      unfold Oper.wp execOp
      have hx' : act.eval x = .slice none 0 0 := hx
      simp only [ho, resolve, invoke, builtin, Sem.run_bind, Sem.run_pure, Result.andThen_ok, List.map_toArray, List.map_cons, List.map_nil, hs, hx', hr]
      exact h v w (by simpa using hown) (Below.refl _ _)
    | some ad => exact main ad rfl (fun j q hq => by simp [ivs] at hq)
  | cons y ys =>
    obtain ⟨b, oo, rfl, h4⟩ := h3 (by simp)
    refine main ⟨b, oo, Option.none⟩ rfl (fun j q hq => ?_)
    have hj : j < (y :: ys).length := by have := (List.getElem?_eq_some_iff.1 hq).1; rwa [ivs_len] at this
    rw [ivs_at hj] at hq
    rw [← hq, Go.WideShapes.add_plain]
    exact h4 j hj
section
variable (c t x m k e p f d u : Int)
end
end Go.Proofs.YtmiakknagjncpaaGreatDoor
/- Tasks at their periods, as they lie: seven numbers each; lists of them, that are read, and that are appended to. -/
namespace Go.Proofs.YtmiakknagjncpaaGreatDoor
open Go.RowKit Go.Shelf

theorem own_laterF {w w' : World} {base n : Nat} {e : TypeId} {size : Nat} {v : Value} {xs : List Value} (h : w.ownsRow base e size v n xs) (hb : Below w.heap.size w w') : w'.ownsRow base e size v n xs := by
  have hl := h.lt
  obtain ⟨h0, h1 | ⟨g, cap, cur, rfl, h2, h3, h4⟩⟩ := h
  · exact ⟨h0, .inl h1⟩
  · exact ⟨h0, .inr ⟨g, cap, cur, rfl, h2, by rw [hb.block g (hl g rfl).2]; exact h3, h4⟩⟩

/-- A task at its period. -/
structure Fx where
  c : Int
  t : Int
  x : Int
  m : Int
  k : Int
  e : Int
  p : Int
def Fx.at (f : Fx) (i : Nat) : Int := match i with
  | 0 => f.c
  | 1 => f.t
  | 2 => f.x
  | 3 => f.m
  | 4 => f.k
  | 5 => f.e
  | _ => f.p
def Fx.sp (f : Fx) : Sp := ⟨f.c, f.t, f.x, f.m, f.k, f.e⟩
def Fx.row (f : Fx) : List Value := [.int .i64 f.c, .int .i64 f.t, .int .i64 f.x, .int .i64 f.m, .int .i64 f.k, .int .i64 f.e, .int .i64 f.p]

/-- Seven numbers that lie in a block, and may be written. -/
def Sev (w : World) (b : Nat) (f : Fx) : Prop := ∀ i, i < 7 → w.cell? ⟨b, i, none⟩ = some (.int .i64 (f.at i)) ∧ w.frozen? ⟨b, i, none⟩ = false
theorem Sev.new (w : World) (c t x m k e p : Int) : Sev (w.alloc (.cells #[.int .i64 c, .int .i64 t, .int .i64 x, .int .i64 m, .int .i64 k, .int .i64 e, .int .i64 p] 42)) w.heap.size ⟨c, t, x, m, k, e, p⟩ := by
  intro i hi
  rcases (show i = 0 ∨ i = 1 ∨ i = 2 ∨ i = 3 ∨ i = 4 ∨ i = 5 ∨ i = 6 by omega) with rfl | rfl | rfl | rfl | rfl | rfl | rfl <;> exact ⟨by simp [Fx.at], by simp⟩
theorem Sev.later {w w' : World} {b : Nat} {f : Fx} (h : Sev w b f) (hb : Below w.heap.size w w') : Sev w' b f := by
  intro i hi
  obtain ⟨h1, h2⟩ := h i hi
  exact ⟨cell_later hb h1, (hb.frozen (p := ⟨b, i, none⟩) (World.block_lt_of_cell? _ _ h1)).trans h2⟩
theorem Sev.lt {w : World} {b : Nat} {f : Fx} (h : Sev w b f) : b < w.heap.size := World.block_lt_of_cell? _ _ (h 0 (by omega)).1
theorem Sev.fx {w : World} {b : Nat} {c t x m k e p : Int} (h : Sev w b ⟨c, t, x, m, k, e, p⟩) :
    w.cell? ⟨b, 0, none⟩ = some (.int .i64 c) ∧ w.cell? ⟨b, 1, none⟩ = some (.int .i64 t) ∧ w.cell? ⟨b, 2, none⟩ = some (.int .i64 x) ∧ w.cell? ⟨b, 3, none⟩ = some (.int .i64 m) ∧ w.cell? ⟨b, 4, none⟩ = some (.int .i64 k) ∧ w.cell? ⟨b, 5, none⟩ = some (.int .i64 e) ∧ w.cell? ⟨b, 6, none⟩ = some (.int .i64 p) :=
  ⟨(h 0 (by omega)).1, (h 1 (by omega)).1, (h 2 (by omega)).1, (h 3 (by omega)).1, (h 4 (by omega)).1, (h 5 (by omega)).1, (h 6 (by omega)).1⟩

/-- A list of tasks at their periods that is read. -/
def Fxs (w : World) (v : Value) (n : Nat) (f : Nat → Fx) : Prop :=
  ∃ a cap, v = .slice a n cap ∧ n ≤ cap ∧ cap ≤ maxLen ∧ (a = none → cap = 0) ∧ (0 < n → ∃ b o, a = some ⟨b, o, none⟩ ∧ ∀ i, i < n → ∀ j, j < 7 → w.cell? ⟨b, o + i * 7 + j, none⟩ = some (.int .i64 ((f i).at j)))
theorem Fxs.later {w w' : World} {v : Value} {n : Nat} {f : Nat → Fx} (h : Fxs w v n f) (hb : Below w.heap.size w w') : Fxs w' v n f := by
  obtain ⟨a, cap, rfl, h1, h2, h0, h3⟩ := h
  refine ⟨a, cap, rfl, h1, h2, h0, fun hx => ?_⟩
  obtain ⟨b, o, rfl, h4⟩ := h3 hx
  exact ⟨b, o, rfl, fun i hi j hj => cell_later hb (h4 i hi j hj)⟩
theorem Fxs.congr {w : World} {v : Value} {n : Nat} {f g : Nat → Fx} (h : Fxs w v n f) (hg : ∀ i, i < n → f i = g i) : Fxs w v n g := by
  obtain ⟨a, cap, rfl, h1, h2, h0, h3⟩ := h
  refine ⟨a, cap, rfl, h1, h2, h0, fun hx => ?_⟩
  obtain ⟨b, o, rfl, h4⟩ := h3 hx
  exact ⟨b, o, rfl, fun i hi j hj => by rw [← hg i hi]; exact h4 i hi j hj⟩
/-- One alone. -/
theorem Fxs.one {w : World} {b : Nat} {f : Fx} (h : Sev w b f) : Fxs w (.slice (some ⟨b, 0, none⟩) 1 1) 1 (fun _ => f) :=
  ⟨_, 1, rfl, Nat.le_refl _, by unfold maxLen; omega, fun h => by simp at h, fun _ => ⟨b, 0, rfl, fun i hi j hj => by
    obtain rfl : i = 0 := by omega
    have := (h j hj).1
    rw [show 0 + 0 * 7 + j = j by omega]; exact this⟩⟩
/-- The seven numbers of one of them. -/
theorem row_open {w : World} {b o : Nat} {f : Fx} (h : ∀ j, j < 7 → w.cell? ⟨b, o + j, none⟩ = some (.int .i64 (f.at j))) :
    w.cell? ⟨b, o, none⟩ = some (.int .i64 f.c) ∧ w.cell? ⟨b, o + 1, none⟩ = some (.int .i64 f.t) ∧ w.cell? ⟨b, o + 2, none⟩ = some (.int .i64 f.x) ∧ w.cell? ⟨b, o + 3, none⟩ = some (.int .i64 f.m) ∧ w.cell? ⟨b, o + 4, none⟩ = some (.int .i64 f.k) ∧ w.cell? ⟨b, o + 5, none⟩ = some (.int .i64 f.e) ∧ w.cell? ⟨b, o + 6, none⟩ = some (.int .i64 f.p) :=
  ⟨h 0 (by omega), h 1 (by omega), h 2 (by omega), h 3 (by omega), h 4 (by omega), h 5 (by omega), h 6 (by omega)⟩

/-- Tasks, as cells. -/
def flatF (n : Nat) (f : Nat → Fx) : List Value := (List.range n).flatMap fun i => (f i).row
theorem flatF_succ (n : Nat) (f : Nat → Fx) : flatF (n + 1) f = flatF n f ++ (f n).row := by
  unfold flatF; rw [List.range_succ, List.flatMap_append]; simp
theorem flatF_len (n : Nat) (f : Nat → Fx) : (flatF n f).length = n * 7 := by
  induction n with
  | zero => rfl
  | succ n ih => rw [flatF_succ, List.length_append, ih]; simp [Fx.row]; omega
theorem row_at (f : Fx) (j : Nat) (h : j < 7) : f.row[j]? = some (.int .i64 (f.at j)) := by
  rcases (show j = 0 ∨ j = 1 ∨ j = 2 ∨ j = 3 ∨ j = 4 ∨ j = 5 ∨ j = 6 by omega) with rfl | rfl | rfl | rfl | rfl | rfl | rfl <;> rfl
theorem flatF_at (n : Nat) (f : Nat → Fx) (i j : Nat) (h : i < n) (hj : j < 7) : (flatF n f)[i * 7 + j]? = some (.int .i64 ((f i).at j)) := by
  induction n with
  | zero => omega
  | succ n ih =>
    rw [flatF_succ]
    have hl := flatF_len n f
    rcases Nat.lt_succ_iff_lt_or_eq.1 h with h1 | rfl
    · rw [List.getElem?_append_left (by omega)]
      exact ih h1
    · rw [List.getElem?_append_right (by omega), hl, show i * 7 + j - i * 7 = j by omega]
      exact row_at _ _ hj
theorem flatF_one (n : Nat) (f : Nat → Fx) : ∀ u ∈ flatF n f, u.oneCell' = true := by
  intro u hu
  obtain ⟨i, _, hx⟩ := List.mem_flatMap.1 hu
  simp [Fx.row] at hx
  rcases hx with rfl | rfl | rfl | rfl | rfl | rfl | rfl <;> rfl
theorem flatF_congr {n : Nat} {f g : Nat → Fx} (h : ∀ i, i < n → f i = g i) : flatF n f = flatF n g := by
  induction n with
  | zero => rfl
  | succ n ih => rw [flatF_succ, flatF_succ, ih (fun i hi => h i (by omega)), h n (by omega)]
/-- Some, and others behind them. -/
def cat9 (n : Nat) (f g : Nat → Fx) (i : Nat) : Fx := if i < n then f i else g (i - n)
theorem cat9_left {n : Nat} {f g : Nat → Fx} {i : Nat} (h : i < n) : cat9 n f g i = f i := if_pos h
theorem cat9_right {n : Nat} {f g : Nat → Fx} {i : Nat} (h : n ≤ i) : cat9 n f g i = g (i - n) := if_neg (by omega)
theorem flatF_app (n m : Nat) (f g : Nat → Fx) : flatF n f ++ flatF m g = flatF (n + m) (cat9 n f g) := by
  induction m with
  | zero =>
    rw [show flatF 0 g = [] from rfl, List.append_nil]
    exact flatF_congr fun i hi => (cat9_left hi).symm
  | succ m ih =>
    rw [flatF_succ, ← List.append_assoc, ih, show n + (m + 1) = n + m + 1 by omega, flatF_succ, cat9_right (by omega), show n + m - n = m by omega]

/-- Tasks of the call's own. -/
def OwnF (w : World) (base : Nat) (v : Value) (n : Nat) (f : Nat → Fx) : Prop := w.ownsRow base 42 7 v n (flatF n f)
theorem OwnF.nil (w : World) (base : Nat) (f : Nat → Fx) : OwnF w base (.slice none 0 0) 0 f := World.ownsRow_nil _ _ _ _
theorem OwnF.fxs {w : World} {base : Nat} {v : Value} {n : Nat} {f : Nat → Fx} (h : OwnF w base v n f) : Fxs w v n f := by
  unfold OwnF at h
  have hcs := fun g hg => h.cells (g := g) hg
  obtain ⟨_, ⟨rfl, hz⟩ | ⟨g, cap, cur, rfl, hb, hh, h1, h2, _⟩⟩ := h
  · subst hz
    exact ⟨none, 0, rfl, by simp, by simp, fun _ => rfl, fun h => by omega⟩
  · refine ⟨_, cap, rfl, h1, h2, fun h => by simp at h, fun _ => ⟨g, 0, rfl, fun i hi j hj => ?_⟩⟩
    have k0 := hcs g rfl _ _ (flatF_at n f i j hi hj)
    rw [Go.WideShapes.add_plain] at k0
    rw [Nat.add_assoc]; exact k0

theorem Tryz.infoFix : (Tryz.prog.info? 42).map (fun i => (i.zero, i.size, i.bytes)) = some (some (.agg #[.int .i64 0, .int .i64 0, .int .i64 0, .int .i64 0, .int .i64 0, .int .i64 0, .int .i64 0]), 7, 56) := by kernel_rfl

/-- What an append of tasks comes to. -/
theorem wp_append_fix {w : World} {o : Oper} {act : Act} {K : Act → World → Prop} {Q : Exit → Act → World → Prop} (s x : Operand)
    (ho : o.op = .call { callee := .builtin .append, args := #[s, x], argTypes := #[23, 23] }) (base : Nat) (v u : Value) (n m : Nat) (f g : Nat → Fx)
    (hs : act.eval s = v) (hown : OwnF w base v n f) (hx : act.eval x = u) (hr : Fxs w u m g) (hn : n + m ≤ 100000) (hbase : base ≤ w.heap.size)
    (h : ∀ v' w', OwnF w' base v' (n + m) (cat9 n f g) → Below base w w' → K (act.put o.dst v') w') : Oper.wp Tryz.prog o act w K Q := by
  obtain ⟨i0, hi, hz0, hz1, hz2⟩ := info_parts Tryz.infoFix
  unfold OwnF at hown
  have hlow := hown.lt
  obtain ⟨a, cap, rfl, h1, h2, h0, h3⟩ := hr
  have m1 : n + m ≤ maxLen := by unfold maxLen; omega
  have main : ∀ (ad : Addr), a = some ad → (∀ j q, (flatF m g)[j]? = some q → w.cell? (ad.add j) = some q) → Oper.wp Tryz.prog o act w K Q := by
    intro ad ha hcells
    subst ha
    refine wp_append_own w s x 23 ho base 42 i0 _ 7 56 Tryz.underlying23 hi hz0 hz1 hz2 rfl (by decide) v n (flatF n f) hs hown ad m cap (flatF m g) hx (by rw [flatF_len]) hcells (flatF_one _ _) m1 (by omega) hbase ?_
    intro v' w' g1 g2 _
    rw [flatF_app] at g1
    exact h v' w' g1 ((Below.refl _ _).grown g2 hbase fun k hk => (hlow k hk).1)
  cases a with
  | none =>
    obtain rfl := h0 rfl
    obtain rfl : m = 0 := by omega
    have hr := run_append_owned_none (P := Tryz.prog) (w := w) base 23 o.type 42 i0 7 Tryz.underlying23 hi v n (flatF n f) hown
    unfold Oper.wp execOp
    have hx' : act.eval x = .slice none 0 0 := hx
    simp only [ho, resolve, invoke, builtin, Sem.run_bind, Sem.run_pure, Result.andThen_ok, List.map_toArray, List.map_cons, List.map_nil, hs, hx', hr]
    refine h v w ?_ (Below.refl _ _)
    unfold OwnF
    rw [← flatF_app, show flatF 0 g = [] from rfl, List.append_nil]
    exact hown
  | some ad =>
    refine main ad rfl (fun j q hq => ?_)
    have hj : j < (flatF m g).length := (List.getElem?_eq_some_iff.1 hq).1
    rw [flatF_len] at hj
    obtain ⟨b, oo, he, h4⟩ := h3 (by omega)
    obtain rfl : ad = ⟨b, oo, none⟩ := by simpa using he
    have k0 := flatF_at m g (j / 7) (j % 7) (by omega) (by omega)
    rw [show j / 7 * 7 + j % 7 = j by omega] at k0
    rw [k0] at hq
    rw [← hq, Go.WideShapes.add_plain]
    have := h4 (j / 7) (by omega) (j % 7) (by omega)
    rwa [show oo + j / 7 * 7 + j % 7 = oo + j by omega] at this
theorem append_fix {w : World} {ops : Array Oper} {rest : List Oper} {o : Oper} {act : Act} {Q : Exit → Act → World → Prop} (hgd : o.guard = Option.none) (s x : Operand)
    (ho : o.op = .call { callee := .builtin .append, args := #[s, x], argTypes := #[23, 23] }) (base : Nat) (v u : Value) (n m : Nat) (f g : Nat → Fx)
    (hs : act.eval s = v) (hown : OwnF w base v n f) (hx : act.eval x = u) (hr : Fxs w u m g) (hn : n + m ≤ 100000) (hbase : base ≤ w.heap.size)
    (h : ∀ v' w', OwnF w' base v' (n + m) (cat9 n f g) → Below base w w' → wpList Tryz.prog ops Q rest (act.put o.dst v') w') : wpList Tryz.prog ops Q (o :: rest) act w := by
  refine wpList_plain hgd fun K hK => ?_
  exact wp_append_fix s x ho base v u n m f g hs hown hx hr hn hbase fun v' w' h1 h2 => hK _ _ (h v' w' h1 h2)
theorem step_append_fix {w : World} {ops : Array Oper} {o : Oper} {act : Act} {K : Act → World → Prop} {Q : Exit → Act → World → Prop} {E : Prop} (hgd : o.guard = Option.none) (s x : Operand)
    (ho : o.op = .call { callee := .builtin .append, args := #[s, x], argTypes := #[23, 23] }) (base : Nat) (v u : Value) (n m : Nat) (f g : Nat → Fx)
    (hs : act.eval s = v) (hown : OwnF w base v n f) (hx : act.eval x = u) (hr : Fxs w u m g) (hn : n + m ≤ 100000) (hbase : base ≤ w.heap.size)
    (h : ∀ v' w', OwnF w' base v' (n + m) (cat9 n f g) → Below base w w' → K (act.put o.dst v') w') :
    if Region.wanted o (yielded ops act.tmps) = true then Oper.wp Tryz.prog o act w K Q else E := by
  have hw : Region.wanted o (yielded ops act.tmps) = true := by simp [Region.wanted, hgd]
  rw [if_pos hw]
  exact wp_append_fix s x ho base v u n m f g hs hown hx hr hn hbase h
end Go.Proofs.YtmiakknagjncpaaGreatDoor
