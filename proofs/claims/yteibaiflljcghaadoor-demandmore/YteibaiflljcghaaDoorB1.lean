/- Runs of numbers: what a round of a loop over one keeps; walks of each, of what over makes of it, of over and of periods of package period. -/
import Derived.RangeFuncNested
import Derived.RangeFuncBound
import Derived.RangeFuncCalls
import Derived.RangeFuncLeaves
import Derived.RangeFuncBox
import Derived.Shelf.Abstract
import Derived.Shelf.RegionOpen
import Derived.WalkKit
import Derived.OwnWalkIn
import Derived.TacticsInMore
import Derived.LoopNIn
import Derived.LoopIn
import Derived.Maps.AppendAt
import Derived.Test.YteibaiflljcghaaDoorX15
import Derived.Test.YteibaiflljcghaaDoorX9
namespace Go.Proofs.YteibaiflljcghaaDoor
open Go.RowKit Go.Shelf
attribute [local go_sem] Oper.semAt_some

/-- The numbers of a run, one by one. -/
def rn (f s : Int) (i : Nat) : Int := f + i * s
/-- A run has so many numbers. -/
structure Runs (f s last : Int) (N : Nat) : Prop where
  f0 : 0 ≤ f
  f1 : f ≤ 4398046511104
  s0 : 1 ≤ s
  s1 : s ≤ 4398046511104
  l1 : last ≤ 4398046511104
  lo : ∀ i, i < N → rn f s i ≤ last
  hi : last < rn f s N
theorem rn_zero (f s : Int) : rn f s 0 = f := by unfold rn; simp
theorem rn_succ (f s : Int) (i : Nat) : rn f s (i + 1) = rn f s i + s := by
  unfold rn; rw [Int.natCast_add, Int.add_mul]; simp; omega
theorem rn_ge {f s : Int} (h : 1 ≤ s) (i : Nat) : f + i ≤ rn f s i := by
  induction i with
  | zero => rw [rn_zero]; simp
  | succ i ih => rw [rn_succ]; omega

/-- What a round keeps: each block that holds a run lies as it lay. -/
def RunKept (W W' : World) : Prop := W.heap.size ≤ W'.heap.size ∧ ∀ (k : Nat) (cs : Array Value) (fr : Nat × Nat), W.heap[k]? = some (.cells cs 74 fr) → W'.heap[k]? = some (.cells cs 74 fr)
theorem runKept_t {A B C : World} (h : RunKept A B) (k : RunKept B C) : RunKept A C := ⟨Nat.le_trans h.1 k.1, fun i cs fr hi => k.2 i cs fr (h.2 i cs fr hi)⟩
theorem RunKept.refl (W : World) : RunKept W W := ⟨Nat.le_refl _, fun _ _ _ h => h⟩
theorem RunKept.of_below {W W' : World} (h : Below W.heap.size W W') : RunKept W W' := ⟨h.size, fun k _ _ hk => (h.block k (Array.getElem?_eq_some_iff.1 hk).1).trans hk⟩
theorem RunKept.of_grown {W W' : World} {row : Option Nat} (hg : W.grownBy W' row) (hr : ∀ k o, row = some k → W.heap[k]? = some o → ∀ cs fr, o ≠ .cells cs 74 fr) : RunKept W W' :=
  ⟨hg.size, fun k cs fr hk => (hg.block k (Array.getElem?_eq_some_iff.1 hk).1 (fun e => hr k _ e.symm hk cs fr rfl)).trans hk⟩
theorem runKept_b {w : World} (W : World) (l : Nat) (o o' : Obj) (_ : w.heap.size ≤ l) (h : W.heap[l]? = some o) (hc : o.isCells = false) (_ : o.isWalk = false) : RunKept W (W.putObj l o') :=
  RunKept.of_grown (grownBy_putObj' W l o') (fun k q e hq _ _ => by cases e; rw [h] at hq; cases hq; intro e; subst e; cases hc)

/-- A block that holds a run. -/
def RunAt (W : World) (b : Nat) (f s last : Int) : Prop := W.heap[b]? = some (.cells #[.int .i64 f, .int .i64 s, .int .i64 last] 74 (0, 0))
theorem RunAt.kept {W W' : World} {b : Nat} {f s last : Int} (h : RunAt W b f s last) (hk : RunKept W W') : RunAt W' b f s last := hk.2 _ _ _ h
theorem RunAt.cells {W : World} {b : Nat} {f s last : Int} (h : RunAt W b f s last) : W.cell? ⟨b, 0, none⟩ = some (.int .i64 f) ∧ W.cell? ⟨b, 1, none⟩ = some (.int .i64 s) ∧ W.cell? ⟨b, 2, none⟩ = some (.int .i64 last) := by
  have h' : W.heap[b]? = _ := h
  refine ⟨?_, ?_, ?_⟩ <;> simp [World.cell?, h']
theorem RunAt.new (W : World) (f s last : Int) : RunAt (W.alloc (.cells #[.int .i64 f, .int .i64 s, .int .i64 last] 74)) W.heap.size f s last := World.alloc_heap_new W _

theorem round_any {m m' : Nat} {P : Program} {l : Nat} {args : Array Value} {W : World} {R : Ending → World → Prop} (h : YieldAt Fence.wide m P l args W R) : YieldAt Fence.wide m' P l args W R := by
  obtain ⟨fn, tmps, assign, body, hy, hR⟩ := h
  exact ⟨fn, tmps, assign, body, hy, hR.1, fun c cs _ => hR.2 c cs (room_wide _)⟩

/-- The rounds that a loop over a run has: as long as it goes on, what it says holds of what came. -/
def RoundsAt (m l N : Nat) (J Jx : List Int → World → Prop) : Prop :=
  ∀ pre x W1, J pre W1 → pre.length < N → YieldAt Fence.wide m Tryd.prog l #[.int .i64 x] W1 fun e W' =>
    (e = .returned (.bool true) ∧ J (pre ++ [x]) W' ∧ RunKept W1 W') ∨ (e = .returned (.bool false) ∧ Jx (pre ++ [x]) W')

set_option maxHeartbeats 1000000 in
set_option maxRecDepth 100000 in
/-- A run hands its numbers on, in order, till no more are wanted. -/
theorem each_in (n l : Nat) (f s last : Int) (N : Nat) (hN : Runs f s last N) (J Jx : List Int → World → Prop) (hY : ∀ m, RoundsAt m l N J Jx) (W : World) (hJ : AbidesFrom W.heap.size J) (h0 : J [] W) :
    CallsIn Fence.wide n Tryd.prog 57 #[.agg #[.int .i64 f, .int .i64 s, .int .i64 last], .func (.yield l) #[] #[]] W fun e W' => (∃ v, e = .returned v) ∧
      ((∃ ys, ys = lst7 N (rn f s) ∧ J ys W') ∨ (∃ pre, (∃ k, k ≤ N ∧ pre = lst7 k (rn f s)) ∧ Jx pre W')) := by
  obtain ⟨f0, f1, s0, s1, l1, lo, hi⟩ := hN
  refine callsIn_of_wp Tryd.func57 rfl trivial ?_ rfl
  simp only [Tryd.ntmps57, List.size_toArray, List.length_cons, List.length_nil, Nat.reduceAdd, Nat.reduceSub, Array.replicate_succ, Array.replicate_zero, List.push_toArray, List.append_toArray, List.nil_append, List.cons_append]
  gi_wp2
  have hR0 := RunAt.new W f s last
  have hJ0 : J [] (W.alloc (.cells #[.int .i64 f, .int .i64 s, .int .i64 last] 74)) := hJ _ _ _ none h0 (World.grownBy_alloc W _ none) (fun r e => by cases e)
  gi_loopw [4] (fun v wr => ∃ k : Nat, k ≤ N ∧ v = .int .i64 (rn f s k) ∧ J (lst7 k (rn f s)) wr ∧ RunAt wr W.heap.size f s last) (fun v _ => (last + 1 - intOf v).toNat)
  case atStart => exact ⟨0, Nat.zero_le _, by rw [rn_zero], hJ0, hR0⟩
  case round =>
    obtain ⟨k, hk, rfl, hJs, hR⟩ := hrel
    obtain ⟨a0, a1, a2⟩ := hR.cells
    by_cases hlt : k < N
    · obtain ⟨fn, tmps, assign, body, hy, hRd⟩ := hY (n - 1) _ (rn f s k) wr hJs (by rw [lst7_len]; exact hlt)
      have g1 := lo k hlt
      have g2 := rn_ge (f := f) s0 k
      have g3 := rn_succ f s k
      obtain ⟨x, hx⟩ : ∃ x, rn f s k = x := ⟨_, rfl⟩
      have HX : Hid (rn f s k = x) := hx
      rw [hx] at g1 g2 g3 hy
      rw [hx]
      clear hx
      gi_wp2
      refine ⟨fun h => (by cases h), hRd.mono ?_⟩
      rintro e W3 (⟨rfl, hJ3, hk3⟩ | ⟨rfl, hJx3⟩)
      · have hR3 := hR.kept hk3
        obtain ⟨b0, b1, b2⟩ := hR3.cells
        gi_wp2
        go_roundw
        case rel =>
          exact ⟨k + 1, by omega, by rw [g3], by rw [lst7_succ]; exact hJ3, hR3⟩
        case measure => simp [intOf]; omega
      · gi_wp2
        refine bodyPost_ret (results_none rfl _ _ _) rfl ?_
        exact ⟨⟨_, rfl⟩, .inr ⟨_, ⟨k + 1, by omega, (lst7_succ _ _).symm⟩, hJx3⟩⟩
    · obtain rfl : k = N := by omega
      gi_wp2
      go_end0
      exact ⟨⟨_, rfl⟩, .inl ⟨_, rfl, hJs⟩⟩
end Go.Proofs.YteibaiflljcghaaDoor
