/- What may be ranged over; walks of over, of periods and of list of package period. -/
import Derived.Test.YteibaiflljcghaaDoorB1
namespace Go.Proofs.YteibaiflljcghaaDoor
open Go.RowKit Go.Shelf
attribute [local go_sem] Oper.semAt_some

/-- A function that may be ranged over, for a run. -/
def IsSeq (w : World) (v : Value) (f s last : Int) : Prop :=
  ∃ Bh Br, v = .func (.func 78) #[] #[.pointer (some ⟨Bh, 0, none⟩), .pointer (some ⟨Br, 0, none⟩)] ∧ Boxed w Bh 72 (.func (.func 57) #[] #[]) ∧ RunAt w Br f s last
theorem RunAt.later {w w' : World} {b : Nat} {f s last : Int} (h : RunAt w b f s last) (hb : Below w.heap.size w w') : RunAt w' b f s last := h.kept (RunKept.of_below hb)
theorem Boxed.later {w w' : World} {b : Nat} {t : TypeId} {v : Value} (h : Boxed w b t v) (hb : Below w.heap.size w w') : Boxed w' b t v := (hb.block b h.lt).trans h
theorem IsSeq.later {w w' : World} {v : Value} {f s last : Int} (h : IsSeq w v f s last) (hb : Below w.heap.size w w') : IsSeq w' v f s last := by
  obtain ⟨Bh, Br, rfl, h1, h2⟩ := h
  exact ⟨Bh, Br, rfl, Boxed.later h1 hb, h2.later hb⟩

/-- A round that appends keeps runs. -/
theorem run_appended {W w1 : World} {n0 B k : Nat} {v u : Value} {xs : List Value} {tmp : Array Value} (hrow : W.ownsRow n0 3 1 v k xs) (hg : (W.alloc (.cells tmp 3)).grownBy w1 v.ownBlock) (hv1 : Boxed w1 B 41 u) (y : Value) : RunKept W (w1.setCell ⟨B, 0, none⟩ y) := by
  refine runKept_t (runKept_t (B := W.alloc (.cells tmp 3)) (RunKept.of_below ((Below.refl _ _).alloc (Nat.le_refl _) _)) (RunKept.of_grown hg (fun j o ej hj cs fr e => ?_))) (RunKept.of_grown (grownBy_setCell' w1 B y) (fun j o ej hj cs fr e => ?_))
  · rcases (hrow.alloc (.cells tmp 3)).2 with ⟨rfl, _⟩ | ⟨g, cap, cur, rfl, _, hgb, _⟩
    · simp [Value.ownBlock] at ej
    · obtain rfl : g = j := by simpa [Value.ownBlock] using ej
      rw [hgb] at hj; cases hj; cases e
  · cases ej
    rw [show w1.heap[B]? = _ from hv1] at hj
    cases hj; cases e

set_option maxHeartbeats 1000000 in
set_option maxRecDepth 100000 in
theorem seq_stops (n Bh Br : Nat) (f s last : Int) (N : Nat) (hN : Runs f s last N) (w : World) (h1 : Boxed w Bh 72 (.func (.func 57) #[] #[])) (h2 : RunAt w Br f s last) :
    SeqStopsK Fence.wide n Tryd.prog 78 #[.pointer (some ⟨Bh, 0, none⟩), .pointer (some ⟨Br, 0, none⟩)] (fun x : Int => #[Value.int .i64 x]) RunKept (fun ys => ys = lst7 N (rn f s)) (fun pre => ∃ k, k ≤ N ∧ pre = lst7 k (rn f s)) N w := fun l J Jx W hW hJ _ hY h0 => by
  have c0 := (Boxed.later h1 hW).cell
  obtain ⟨c1, c2, c3⟩ := (h2.later hW).cells
  have H := each_in (n - 1) l f s last N hN J Jx (fun m pre x W1 a b => round_any (hY pre x W1 a b)) W hJ h0
  refine callsIn_of_wp Tryd.func78 rfl trivial ?_ rfl
  simp only [Tryd.ntmps78, List.size_toArray, List.length_cons, List.length_nil, Nat.reduceAdd, Nat.reduceSub, Array.replicate_succ, Array.replicate_zero, List.push_toArray, List.append_toArray, List.nil_append, List.cons_append]
  gi_wp2
  refine ⟨trivial, fun h => (by cases h), H.mono ?_⟩
  rintro e w1 ⟨⟨u, rfl⟩, hR⟩
  gi_wp2
  go_end0
  exact ⟨⟨_, rfl⟩, hR⟩

set_option maxHeartbeats 1000000 in
set_option maxRecDepth 100000 in
theorem over_any (f s last : Int) (w : World) :
    Calls Tryd.prog 56 #[.func (.func 57) #[] #[], .agg #[.int .i64 f, .int .i64 s, .int .i64 last]] w fun r w' => ∃ u, r = .returned u ∧ IsSeq w' u f s last ∧ Below w.heap.size w w' := by
  have b1 := (Boxed.new w 72 (.func (.func 57) #[] #[])).alloc (.cells #[.int .i64 f, .int .i64 s, .int .i64 last] 74)
  have b2 := RunAt.new (w.alloc (.cells #[.func (.func 57) #[] #[]] 72)) f s last
  rw [World.size_alloc] at b2
  go_enter Tryd.func56, Tryd.ntmps56
  go_wp2_with fail
  go_ret
  exact ⟨_, rfl, ⟨_, _, rfl, b1, b2⟩, ((Below.refl _ _).alloc (by simp) _).alloc (by simp) _⟩

set_option maxHeartbeats 1000000 in
set_option maxRecDepth 100000 in
theorem periods_any (c t x m k e : Int) (w : World) :
    Calls Tryd.prog 53 #[.agg #[.int .i64 c, .int .i64 t, .int .i64 x, .int .i64 m, .int .i64 k, .int .i64 e]] w fun r w' => ∃ u, r = .returned u ∧ IsSeq w' u t 1 x ∧ Below w.heap.size w w' := by
  have hS : Six (w.alloc (.cells #[.int .i64 c, .int .i64 t, .int .i64 x, .int .i64 m, .int .i64 k, .int .i64 e] 24)) w.heap.size (Sp.at ⟨c, t, x, m, k, e⟩) := Six.new w ⟨c, t, x, m, k, e⟩
  obtain ⟨a0, a1, a2, a3, a4, a5, b0, b1, b2, b3, b4, b5⟩ := hS.sp
  go_enter Tryd.func53, Tryd.ntmps53
  go_wp2_with fail
  refine (over_any t 1 x _).mono ?_
  rintro r w1 ⟨u, rfl, hs, hb⟩
  go_wp2_with fail
  go_ret
  exact ⟨u, rfl, hs, ((Below.refl _ _).alloc (by simp) _).trans (hb.mono (by simp))⟩

set_option maxHeartbeats 2000000 in
set_option maxRecDepth 100000 in
/-- What is handed on, in order. -/
theorem perlist_any (f s last : Int) (N : Nat) (hN : Runs f s last N) (hN1 : N ≤ 100000) (v : Value) (w : World) (h : IsSeq w v f s last) :
    Calls Tryd.prog 52 #[v] w fun r w' => ∃ u, r = .returned u ∧ w'.ownsRow w.heap.size 3 1 u N (ivs (lst7 N (rn f s))) ∧ Below w.heap.size w w' := by
  obtain ⟨Bh, Br, rfl, h1, h2⟩ := h
  obtain ⟨i0, hi, hz0, hz1, hz2⟩ := info_parts Tryd.infoInt
  refine (callsIn_wide (n := 3)).1 ?_
  refine callsIn_of_wp_marks Tryd.func52 rfl trivial ?_ rfl
  simp only [Tryd.ntmps52, List.size_toArray, List.length_cons, List.length_nil, Nat.reduceAdd, Nat.reduceSub, Array.replicate_succ, Array.replicate_zero, List.push_toArray, List.append_toArray, List.nil_append, List.cons_append]
  gi_wp2
  have bO := Boxed.new w 41 (.slice none 0 0)
  have hB0 : Below w.heap.size w (w.alloc (.cells #[.slice none 0 0] 41)) := (Below.refl _ w).alloc (Nat.le_refl _) _
  refine wpIn_rangeFunc_ownG rfl (by omega) (gf := 78) (lb := #[.pointer (some ⟨Bh, 0, none⟩), .pointer (some ⟨Br, 0, none⟩)]) rfl trivial (enters_of Tryd.func78 (by kernel_rfl) rfl)
    (seq_stops _ Bh Br f s last N hN _ (Boxed.later h1 hB0) (h2.later hB0)) runKept_t runKept_b (Below.refl _ _) (fun _ => rfl)
    (fun pre W => (∃ v, Boxed W w.heap.size 41 v ∧ W.ownsRow w.heap.size 3 1 v pre.length (ivs pre) ∧ True) ∧ Below w.heap.size w W)
    (fun _ _ _ => False)
    (OwnFrom.and (Own.from (holdsRow_own w.heap.size w.heap.size 41 3 1 (fun pre => pre.length) (fun pre => ivs pre) (fun _ _ => True)) _) (ownFrom_below (Nat.le_refl _) (by simp)))
    (fun _ _ _ _ _ hs _ _ => hs)
    ⟨⟨_, bO, World.ownsRow_nil _ _ _ _, trivial⟩, hB0⟩
    (fun x => { tmps := #[.func (.func 78) #[] #[.pointer (some ⟨Bh, 0, none⟩), .pointer (some ⟨Br, 0, none⟩)], undef, .slice none 0 0, .pointer (some ⟨w.heap.size, 0, none⟩), .int .i64 x, .func (.func 78) #[] #[.pointer (some ⟨Bh, 0, none⟩), .pointer (some ⟨Br, 0, none⟩)], .int .i64 x, undef, undef, undef, undef, undef], defers := [] }) ?assign ?body ?done ?stop
  case assign =>
    intro l x W K hK
    gi_wp2
    exact hK
  case body =>
    rintro l pre x W ⟨⟨v, hv, hrow, _⟩, hB⟩ hlt
    have hc := hv.cell
    gi_wp2_with (gi_at_builtin; refine wpListIn_append_own _ rfl _ _ 41 rfl w.heap.size 3 i0 (.int .i64 0) 1 8 Tryd.underlying41 hi hz0 hz1 hz2 rfl (by decide) _ _ _ rfl (hrow.alloc _) ⟨W.heap.size, 0, none⟩ 1 1 [.int .i64 x] rfl rfl (cell_one_new _ _ _) (by simp [Value.oneCell']) (by unfold maxLen; omega) (by omega) (by have := hB.size; simp; omega) ?_; intro v' w1 hown' hgrow _; obtain ⟨g', cap', rfl⟩ := ownsRow_succ hown'; obtain ⟨hv1, hv2, hr2, hk2, hb2⟩ := hv.appended (by decide) hrow hB.size (Nat.le_refl _) hown' hgrow; have hc1 := hv1.cell; have hf1 := hv1.frozen; have hrk := run_appended hrow hgrow hv1)
    exact ⟨hk2.from _, hrk _, ⟨_, hv2, by simpa [ivs] using hr2, trivial⟩, hB.trans hb2⟩
  case done =>
    rintro D ys W hD rfl ⟨⟨v, hv, hrow, _⟩, hB⟩ hK
    have hc := hv.cell
    gi_wp2
    refine ⟨by simp, .inl ⟨_, _, rfl, run_takeDeferred hK, ?_⟩⟩
    refine ⟨_, results_tmp rfl _ _ _, v, rfl, ?_, hB.trans (belowK_b (w := w) (Nat.le_refl _) W D _ _ (by simp at hD; omega) hK rfl rfl)⟩
    have := ownsRow_putObj hrow (.deferred none) hK rfl
    rwa [lst7_len] at this
  case stop =>
    rintro D c pre W _ _ h _
    exact h.elim
end Go.Proofs.YteibaiflljcghaaDoor
