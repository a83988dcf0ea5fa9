/- The least period of units: Of of package period goes through a task's periods. -/
import Derived.Test.YtociniaaeflokaaB3
namespace Go.Proofs.Ytociniaaeflokaa
open Go.RowKit Go.Shelf
attribute [local go_sem] Oper.semAt_some

theorem keeps_below {W W' : World} (h : Below W.heap.size W W') : KeepsOthers W W' := ⟨h.size, fun k _ hk _ => (h.block k (Array.getElem?_eq_some_iff.1 hk).1).trans hk⟩
theorem ofAt_own {β : Type} (n : Nat) (s : Sp) (u : Int) (p : β → Int) (b : Bool) : Own (fun (q : β) W => OfAt W n s u (p q) b) := fun q W W' row hs hg hr =>
  ⟨fun i hi => ⟨cell_kept (hs.sp i hi).1 hg hr, (frozen_kept (hs.sp i hi).1 hg hr).trans (hs.sp i hi).2⟩, boxed_own _ _ (fun _ => _) q W W' row hs.un hg hr, boxed_own _ _ (fun _ => _) q W W' row hs.pe hg hr, boxed_own _ _ (fun _ => _) q W W' row hs.is hg hr⟩

/-- None of what came has no more than u units. -/
def NoneYet (s : Sp) (u : Int) (pre : List Int) : Prop := ∀ y ∈ pre, ¬ atV s y ≤ u
/-- The last of what came is the first one that has no more than u units. -/
def LastIs (s : Sp) (u : Int) (pre : List Int) (y : Int) : Prop := ∃ q, pre = q ++ [y] ∧ NoneYet s u q ∧ atV s y ≤ u
theorem find_none {s : Sp} {u : Int} {l : List Int} (h : NoneYet s u l) : l.find? (fun p => decide (atV s p ≤ u)) = none := by
  rw [List.find?_eq_none]; intro y hy; simpa using h y hy
theorem find_last {s : Sp} {u y : Int} {l r : List Int} (h : LastIs s u l y) : (l ++ r).find? (fun p => decide (atV s p ≤ u)) = some y := by
  obtain ⟨q, rfl, h1, h2⟩ := h
  rw [List.append_assoc, List.find?_append, find_none h1]
  simp [h2]
theorem lst7_split {k N : Nat} (h : k ≤ N) (g : Nat → Int) : ∃ r, lst7 N g = lst7 k g ++ r := by
  refine ⟨(List.range' k (N - k)).map g, ?_⟩
  unfold lst7
  rw [← List.map_append]
  congr 1
  rw [List.range_eq_range', List.range_eq_range']
  have := List.range'_append_1 (s := 0) (m := k) (n := N - k)
  rw [Nat.zero_add] at this
  rw [this]; congr 1; omega

set_option maxHeartbeats 2000000 in
set_option maxRecDepth 100000 in
theorem of_in (c t x m k e u : Int) (w : World) (h1 : maySp ⟨c, t, x, m, k, e⟩ = true) (h2 : wiB u 1 1048576 = true) :
    Calls Try.prog 9 #[.agg #[.int .i64 c, .int .i64 t, .int .i64 x, .int .i64 m, .int .i64 k, .int .i64 e], .int .i64 u] w fun r w' => r = .returned (.tuple #[.int .i64 (ofP ⟨c, t, x, m, k, e⟩ u), .bool (ofB ⟨c, t, x, m, k, e⟩ u)]) ∧ Below w.heap.size w w' := by
  have hN := per_runs h1
  have HE := of_yes h1 h2
  obtain ⟨N, hNN⟩ : ∃ N, perN ⟨c, t, x, m, k, e⟩ = N := ⟨_, rfl⟩
  have HE' : Hid (ofO ⟨c, t, x, m, k, e⟩ u = (lst7 N (rn t 1)).find? (fun p => decide (atV ⟨c, t, x, m, k, e⟩ p ≤ u))) := by show _ = _; rw [HE, ← hNN]; rfl
  rw [hNN] at hN
  clear HE hNN
  have H1 : Hid (maySp ⟨c, t, x, m, k, e⟩ = true) := h1
  have H2 : Hid (wiB u 1 1048576 = true) := h2
  clear h1 h2
  refine (callsIn_wide (n := 4)).1 ?_
  refine callsIn_of_wp_marks Try.func9 rfl trivial ?_ rfl
  simp only [Try.ntmps9, List.size_toArray, List.length_cons, List.length_nil, Nat.reduceAdd, Nat.reduceSub, Array.replicate_succ, Array.replicate_zero, List.push_toArray, List.append_toArray, List.nil_append, List.cons_append]
  have hO := OfAt.new w c t x m k e u
  have hb0 : Below w.heap.size w ((((w.alloc (.cells #[.int .i64 c, .int .i64 t, .int .i64 x, .int .i64 m, .int .i64 k, .int .i64 e] 23)).alloc (.cells #[.int .i64 u] 3)).alloc (.cells #[.int .i64 0] 3)).alloc (.cells #[.bool false] 4)) := ((((Below.refl _ w).alloc (Nat.le_refl _) _).alloc (by simp) _).alloc (by simp; omega) _).alloc (by simp; omega) _
  gi_wp2_with fail
  refine ⟨trivial, (callsIn_wide.2 (spmay_any c t x m k e _)).mono ?_⟩
  rintro r w1 ⟨rfl, hb1⟩
  have hO1 := hO.later hb1
  replace hb1 := hb0.trans (hb1.mono hb0.size)
  clear hO hb0
  obtain ⟨a0, a1, a2, a3, a4, a5, b0, b1, b2, b3, b4, b5⟩ := hO1.sp.sp
  have cU := hO1.un.cell
  rw [H1.out]
  gi_wp2_with fail
  refine ⟨trivial, (callsIn_wide.2 (pwithin_any u 1 1048576 _)).mono ?_⟩
  rintro r w2 ⟨rfl, hw⟩
  obtain rfl := hw.symm
  rw [H2.out]
  gi_wp2_with fail
  refine ⟨trivial, (callsIn_wide.2 (periods_any c t x m k e _)).mono ?_⟩
  rintro r w3 ⟨sq, rfl, hs, hb3⟩
  have hO3 := hO1.later hb3
  replace hb3 := hb1.trans (hb3.mono hb1.size)
  clear hO1 hb1 a0 a1 a2 a3 a4 a5 b0 b1 b2 b3 b4 b5 cU
  obtain ⟨Bh, Br, rfl, g1, g2⟩ := hs
  gi_wp2_with fail
  refine wpIn_rangeFunc_ownG rfl (by omega) (gf := 33) (lb := #[.pointer (some ⟨Bh, 0, none⟩), .pointer (some ⟨Br, 0, none⟩)]) rfl trivial (enters_of Try.func33 (by kernel_rfl) rfl)
    (seq_stops _ Bh Br t 1 x N hN _ g1 g2) runKept_t runKept_b (Below.refl _ _) (fun _ => rfl)
    (fun pre W => (OfAt W w.heap.size ⟨c, t, x, m, k, e⟩ u 0 false ∧ NoneYet ⟨c, t, x, m, k, e⟩ u pre) ∧ Below w.heap.size w W)
    (fun c0 pre W => (∃ y, OfAt W w.heap.size ⟨c, t, x, m, k, e⟩ u y true ∧ c0 = .ret ∧ LastIs ⟨c, t, x, m, k, e⟩ u pre y) ∧ Below w.heap.size w W)
    (OwnFrom.and (OwnFrom.and (Own.from (ofAt_own _ _ _ (fun _ => 0) _) _) (ownFrom_pure _ _)) (ownFrom_below (Nat.le_refl _) hb3.size))
    (fun c0 => OwnFrom.and (fun pre W W' row ⟨y, hs, hq⟩ hg hr => ⟨y, Own.from (ofAt_own (β := List Int) _ _ _ (fun _ => y) _) w3.heap.size pre W W' row hs hg hr, hq⟩) (ownFrom_below (Nat.le_refl _) hb3.size))
    ⟨⟨hO3, fun y hy => by cases hy⟩, hb3⟩
    (fun p => { tmps := #[.agg #[.int .i64 c, .int .i64 t, .int .i64 x, .int .i64 m, .int .i64 k, .int .i64 e], .int .i64 u, .pointer (some ⟨w.heap.size, 0, none⟩), .pointer (some ⟨w.heap.size + 1, 0, none⟩), .pointer (some ⟨w.heap.size + 1 + 1, 0, none⟩), .pointer (some ⟨w.heap.size + 1 + 1 + 1, 0, none⟩), .int .i64 p, .agg #[.int .i64 c, .int .i64 t, .int .i64 x, .int .i64 m, .int .i64 k, .int .i64 e], .bool true, .bool false, .bool false, .int .i64 u, .bool true, .bool false, .bool false, .agg #[.int .i64 c, .int .i64 t, .int .i64 x, .int .i64 m, .int .i64 k, .int .i64 e], .func (.func 33) #[] #[.pointer (some ⟨Bh, 0, none⟩), .pointer (some ⟨Br, 0, none⟩)], .int .i64 p, undef, undef, undef, undef, undef, undef], defers := [] }) ?assign ?body ?done ?stop
  case assign =>
    intro l p W K hK
    gi_wp2
    exact hK
  case body =>
    rintro l pre p W ⟨⟨hO, hall⟩, hB⟩ hlt
    obtain ⟨a0, a1, a2, a3, a4, a5, b0, b1, b2, b3, b4, b5⟩ := hO.sp.sp
    have cU := hO.un.cell
    have hmx : Try.prog.follows .mixedOrders = true := by kernel_rfl
    obtain ⟨a, ha⟩ : ∃ a, atV ⟨c, t, x, m, k, e⟩ p = a := ⟨_, rfl⟩
    have HA : Hid (atV ⟨c, t, x, m, k, e⟩ p = a) := ha
    clear ha
    by_cases hau : a ≤ u
    · gi_wp2_with fail
      gi_region_with_o (refine ⟨trivial, ?_⟩; gi_at_call 18; refine (CallsIn.inRound l (callsIn_wide.2 (at_any c t x m k e p _))).mono ?_; rintro r w4 ⟨rfl, hw4⟩; rw [HA.out]; have cU4 : w4.cell? ⟨w.heap.size + 1, 0, none⟩ = some (.int .i64 u) := cell_later hw4 cU)
      all_goals
        have hb4 : Below W.heap.size W w4 := ((Below.refl _ W).drew).trans hw4
        have hO4 := hO.later hb4
        have cP := hO4.pe.cell
        have dP := hO4.pe.frozen
        have cB := hO4.is.cell
        have dB := hO4.is.frozen
        gi_wp2_with fail
        exact ⟨(((keeps_below hb4).trans (KeepsOthers.setCell _ _ _)).trans (KeepsOthers.setCell _ _ _)).from _, ⟨p, hO4.put, rfl, pre, rfl, hall, by rw [HA.out]; exact hau⟩, two_below (hB.trans (hb4.mono hB.size)) (Nat.le_refl _)⟩
    · gi_wp2_with fail
      gi_region_with_o (refine ⟨trivial, ?_⟩; gi_at_call 18; refine (CallsIn.inRound l (callsIn_wide.2 (at_any c t x m k e p _))).mono ?_; rintro r w4 ⟨rfl, hw4⟩; rw [HA.out]; have cU4 : w4.cell? ⟨w.heap.size + 1, 0, none⟩ = some (.int .i64 u) := cell_later hw4 cU)
      all_goals
        have hb4 : Below W.heap.size W w4 := ((Below.refl _ W).drew).trans hw4
        have hO4 := hO.later hb4
        gi_wp2_with fail
        exact ⟨(keeps_below hb4).from _, RunKept.of_below hb4, ⟨hO4, fun y hy => (List.mem_append.1 hy).elim (hall y) (fun e' => by simp at e'; subst e'; rw [HA.out]; omega)⟩, hB.trans (hb4.mono hB.size)⟩
  case done =>
    rintro D ys W hD rfl ⟨⟨hO, hall⟩, hB⟩ hK
    have cP := hO.pe.cell
    have dP := hO.pe.frozen
    have cB := hO.is.cell
    have dB := hO.is.frozen
    gi_wp2_with fail
    have hK' := ((KeepsOthers.setCell W ⟨w.heap.size + 1 + 1, 0, none⟩ (.int .i64 0)).trans (KeepsOthers.setCell _ ⟨w.heap.size + 1 + 1 + 1, 0, none⟩ (.bool false))).same D _ hK rfl
    refine ⟨by simp, .inl ⟨_, _, rfl, run_takeDeferred hK', ?_⟩⟩
    have hR := ofAt_own (β := Unit) _ _ _ (fun _ => 0) _ () _ _ _ (OfAt.put (p' := 0) (b' := false) hO) (grownBy_putObj' _ D (.deferred none)) (fun r e => by cases e; exact ⟨_, hK', rfl⟩)
    have z1 := hR.pe.cell
    have z2 := hR.is.cell
    have HF : ofO ⟨c, t, x, m, k, e⟩ u = none := by rw [HE'.out]; exact find_none hall
    refine ⟨.tuple #[.int .i64 0, .bool false], ?_, by unfold ofP ofB; rw [HF]; rfl, (two_below hB (Nat.le_refl _)).trans (belowK_b (w := w) (Nat.le_refl _) _ D _ _ (Nat.le_trans hb3.size hD) hK' rfl rfl)⟩
    simp [results, Try.results9, go_sem, z1, z2]
  case stop =>
    rintro D c0 pre W hD ⟨k0, hk0, rfl⟩ ⟨⟨y, hO, rfl, hl⟩, hB⟩ hK
    gi_wp2_with fail
    refine ⟨by simp, .inl ⟨_, _, rfl, run_takeDeferred hK, ?_⟩⟩
    have hR := ofAt_own (β := Unit) _ _ _ (fun _ => y) _ () _ _ _ hO (grownBy_putObj' _ D (.deferred none)) (fun r e => by cases e; exact ⟨_, hK, rfl⟩)
    have z1 := hR.pe.cell
    have z2 := hR.is.cell
    have HF : ofO ⟨c, t, x, m, k, e⟩ u = some y := by
      obtain ⟨r, hr⟩ := lst7_split hk0 (rn t 1)
      rw [HE'.out, hr]; exact find_last hl
    refine ⟨.tuple #[.int .i64 y, .bool true], ?_, by unfold ofP ofB; rw [HF]; rfl, hB.trans (belowK_b (w := w) (Nat.le_refl _) _ D _ _ (Nat.le_trans hb3.size hD) hK rfl rfl)⟩
    simp [results, Try.results9, go_sem, z1, z2]

theorem perOf_any (c t x m k e u : Int) (w : World) :
    Calls Try.prog 9 #[.agg #[.int .i64 c, .int .i64 t, .int .i64 x, .int .i64 m, .int .i64 k, .int .i64 e], .int .i64 u] w fun r w' => r = .returned (.tuple #[.int .i64 (ofP ⟨c, t, x, m, k, e⟩ u), .bool (ofB ⟨c, t, x, m, k, e⟩ u)]) ∧ Below w.heap.size w w' := by
  cases h1 : maySp ⟨c, t, x, m, k, e⟩ with
  | false => unfold ofP ofB; rw [of_no1 h1]; exact of_out1 c t x m k e u w h1
  | true =>
    cases h2 : wiB u 1 1048576 with
    | false => unfold ofP ofB; rw [of_no2 h2]; exact of_out2 c t x m k e u w h1 h2
    | true => exact of_in c t x m k e u w h1 h2
end Go.Proofs.Ytociniaaeflokaa
