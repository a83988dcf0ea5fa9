/- Texts that belong together, one behind the other: X1, X3, X4, X9, X15, B1, B2, B3, B5, B6, B9, B10, D1, D2. -/
import Derived.Test.YteibaiflljcghaaDoorY1
import Derived.Test.YteibaiflljcghaaDoorY2
import Derived.ChangeKeysEq
import Derived.Lib.Mul64
import Derived.Deep.RegionWith
import Derived.Deep.RegionHeld3
import Derived.BigQuiet
import Derived.Maps.RangeWalk
import Derived.Maps.Views
import Derived.Maps.AppendAt
import Derived.RangeFuncNested
import Derived.RangeFuncBound
import Derived.RangeFuncCalls
import Derived.RangeFuncLeaves
import Derived.RangeFuncBox
import Derived.Shelf.Abstract
import Derived.Shelf.RegionOpen
import Derived.WalkKit
import Derived.OwnWalkIn
import Derived.TacticsInMore
import Derived.LoopNIn
import Derived.LoopIn
import Derived.Test.YteibaiflljcghaaDoorV6
import Derived.Laws.AppendOwnNone
/- Sums over the first numbers, and the least force by which springs have no more than a load: plain arithmetic. -/
namespace Go.Proofs.YteibaiflljcghaaDoor

/-- g of the first n numbers, together. -/
def sm : Nat → (Nat → Int) → Int
  | 0, _ => 0
  | n + 1, g => sm n g + g n
theorem sm_congr {n : Nat} {f g : Nat → Int} (h : ∀ i, i < n → f i = g i) : sm n f = sm n g := by
  induction n with
  | zero => rfl
  | succ n ih => show sm n f + f n = sm n g + g n; rw [ih (fun i hi => h i (by omega)), h n (by omega)]
theorem sm_le {n : Nat} {f g : Nat → Int} (h : ∀ i, i < n → f i ≤ g i) : sm n f ≤ sm n g := by
  induction n with
  | zero => exact Int.le_refl _
  | succ n ih => have := ih (fun i hi => h i (by omega)); have := h n (by omega); show sm n f + f n ≤ sm n g + g n; omega
theorem sm_add (n : Nat) (f g : Nat → Int) : sm n (fun i => f i + g i) = sm n f + sm n g := by
  induction n with
  | zero => rfl
  | succ n ih => show sm n (fun i => f i + g i) + (f n + g n) = (sm n f + f n) + (sm n g + g n); rw [ih]; omega
theorem sm_mul (n : Nat) (k : Int) (f : Nat → Int) : sm n (fun i => k * f i) = k * sm n f := by
  induction n with
  | zero => show (0 : Int) = k * 0; omega
  | succ n ih => show sm n (fun i => k * f i) + k * f n = k * (sm n f + f n); rw [ih, Int.mul_add]
theorem sm_zero (n : Nat) : sm n (fun _ => 0) = 0 := by
  induction n with
  | zero => rfl
  | succ n ih => show sm n (fun _ => 0) + 0 = 0; rw [ih]; rfl
theorem sm_const (n : Nat) (k : Int) : sm n (fun _ => k) = n * k := by
  induction n with
  | zero => show (0 : Int) = (0 : Nat) * k; simp
  | succ n ih => show sm n (fun _ => k) + k = _; rw [ih, Int.natCast_add, Int.add_mul]; simp
section
variable (n : Nat) (U L E : Nat → Int)
variable {n U L E}
end
end Go.Proofs.YteibaiflljcghaaDoor
/- Springs as they lie; walks of package spring: within, least, slack, what tells of one, and two numbers in the least ones. -/
namespace Go.Proofs.YteibaiflljcghaaDoor
open Go.RowKit
/-- A spring's least. -/
def lea (u m e : Int) : Int := if e = 0 then u else m

/-- How many units a spring has by a through b, rounded down. -/
def hasV (u m e a b : Int) : Int := max (u - cl (a * e) b) (lea u m e)
end Go.Proofs.YteibaiflljcghaaDoor
/- Walks of package spring: what is told of each, and all of it together; May and Room. -/
namespace Go.Proofs.YteibaiflljcghaaDoor
open Go.RowKit

/-- g of the first n numbers, one by one. -/
def lst7 (n : Nat) (g : Nat → Int) : List Int := (List.range n).map g
theorem lst7_len (n : Nat) (g : Nat → Int) : (lst7 n g).length = n := by simp [lst7]
theorem lst7_sum (n : Nat) (g : Nat → Int) : (lst7 n g).sum = sm n g := by
  unfold lst7
  induction n with
  | zero => rfl
  | succ n ih => rw [List.range_succ, List.map_append, List.sum_append, ih]; simp [sm]
end Go.Proofs.YteibaiflljcghaaDoor
/- What follows of the least force: plain arithmetic. -/
namespace Go.Proofs.YteibaiflljcghaaDoor

/-- What each has, rounded down. -/
def hv (u m e : Nat → Int) (a b : Int) (i : Nat) : Int := hasV (u i) (m i) (e i) a b

section
variable {n : Nat} {u m e : Nat → Int} {a b load : Int}
end
end Go.Proofs.YteibaiflljcghaaDoor
/- The law: no others have lesser squares. -/
namespace Go.Proofs.YteibaiflljcghaaDoor
open Go.RowKit

theorem lst7_succ (n : Nat) (g : Nat → Int) : lst7 (n + 1) g = lst7 n g ++ [g n] := by unfold lst7; rw [List.range_succ, List.map_append]; rfl
end Go.Proofs.YteibaiflljcghaaDoor
/- Runs of numbers: what a round of a loop over one keeps; walks of each, of what over makes of it, of over and of periods of package period. -/
namespace Go.Proofs.YteibaiflljcghaaDoor
open Go.RowKit Go.Shelf
attribute [local go_sem] Oper.semAt_some

/-- The numbers of a run, one by one. -/
def rn (f s : Int) (i : Nat) : Int := f + i * s
/-- A run has so many numbers. -/
structure Runs (f s last : Int) (N : Nat) : Prop where
  f0 : 0 ≤ f
  f1 : f ≤ 4398046511104
  s0 : 1 ≤ s
  s1 : s ≤ 4398046511104
  l1 : last ≤ 4398046511104
  lo : ∀ i, i < N → rn f s i ≤ last
  hi : last < rn f s N
theorem rn_zero (f s : Int) : rn f s 0 = f := by unfold rn; simp
theorem rn_succ (f s : Int) (i : Nat) : rn f s (i + 1) = rn f s i + s := by
  unfold rn; rw [Int.natCast_add, Int.add_mul]; simp; omega
theorem rn_ge {f s : Int} (h : 1 ≤ s) (i : Nat) : f + i ≤ rn f s i := by
  induction i with
  | zero => rw [rn_zero]; simp
  | succ i ih => rw [rn_succ]; omega

/-- What a round keeps: each block that holds a run lies as it lay. -/
def RunKept (W W' : World) : Prop := W.heap.size ≤ W'.heap.size ∧ ∀ (k : Nat) (cs : Array Value) (fr : Nat × Nat), W.heap[k]? = some (.cells cs 74 fr) → W'.heap[k]? = some (.cells cs 74 fr)
theorem runKept_t {A B C : World} (h : RunKept A B) (k : RunKept B C) : RunKept A C := ⟨Nat.le_trans h.1 k.1, fun i cs fr hi => k.2 i cs fr (h.2 i cs fr hi)⟩
theorem RunKept.refl (W : World) : RunKept W W := ⟨Nat.le_refl _, fun _ _ _ h => h⟩
theorem RunKept.of_below {W W' : World} (h : Below W.heap.size W W') : RunKept W W' := ⟨h.size, fun k _ _ hk => (h.block k (Array.getElem?_eq_some_iff.1 hk).1).trans hk⟩
theorem RunKept.of_grown {W W' : World} {row : Option Nat} (hg : W.grownBy W' row) (hr : ∀ k o, row = some k → W.heap[k]? = some o → ∀ cs fr, o ≠ .cells cs 74 fr) : RunKept W W' :=
  ⟨hg.size, fun k cs fr hk => (hg.block k (Array.getElem?_eq_some_iff.1 hk).1 (fun e => hr k _ e.symm hk cs fr rfl)).trans hk⟩
theorem runKept_b {w : World} (W : World) (l : Nat) (o o' : Obj) (_ : w.heap.size ≤ l) (h : W.heap[l]? = some o) (hc : o.isCells = false) (_ : o.isWalk = false) : RunKept W (W.putObj l o') :=
  RunKept.of_grown (grownBy_putObj' W l o') (fun k q e hq _ _ => by cases e; rw [h] at hq; cases hq; intro e; subst e; cases hc)

/-- A block that holds a run. -/
def RunAt (W : World) (b : Nat) (f s last : Int) : Prop := W.heap[b]? = some (.cells #[.int .i64 f, .int .i64 s, .int .i64 last] 74 (0, 0))
theorem RunAt.kept {W W' : World} {b : Nat} {f s last : Int} (h : RunAt W b f s last) (hk : RunKept W W') : RunAt W' b f s last := hk.2 _ _ _ h
theorem RunAt.cells {W : World} {b : Nat} {f s last : Int} (h : RunAt W b f s last) : W.cell? ⟨b, 0, none⟩ = some (.int .i64 f) ∧ W.cell? ⟨b, 1, none⟩ = some (.int .i64 s) ∧ W.cell? ⟨b, 2, none⟩ = some (.int .i64 last) := by
  have h' : W.heap[b]? = _ := h
  refine ⟨?_, ?_, ?_⟩ <;> simp [World.cell?, h']
theorem RunAt.new (W : World) (f s last : Int) : RunAt (W.alloc (.cells #[.int .i64 f, .int .i64 s, .int .i64 last] 74)) W.heap.size f s last := World.alloc_heap_new W _

theorem round_any {m m' : Nat} {P : Program} {l : Nat} {args : Array Value} {W : World} {R : Ending → World → Prop} (h : YieldAt Fence.wide m P l args W R) : YieldAt Fence.wide m' P l args W R := by
  obtain ⟨fn, tmps, assign, body, hy, hR⟩ := h
  exact ⟨fn, tmps, assign, body, hy, hR.1, fun c cs _ => hR.2 c cs (room_wide _)⟩

/-- The rounds that a loop over a run has: as long as it goes on, what it says holds of what came. -/
def RoundsAt (m l N : Nat) (J Jx : List Int → World → Prop) : Prop :=
  ∀ pre x W1, J pre W1 → pre.length < N → YieldAt Fence.wide m Tryd.prog l #[.int .i64 x] W1 fun e W' =>
    (e = .returned (.bool true) ∧ J (pre ++ [x]) W' ∧ RunKept W1 W') ∨ (e = .returned (.bool false) ∧ Jx (pre ++ [x]) W')

set_option maxHeartbeats 1000000 in
set_option maxRecDepth 100000 in
/-- A run hands its numbers on, in order, till no more are wanted. -/
theorem each_in (n l : Nat) (f s last : Int) (N : Nat) (hN : Runs f s last N) (J Jx : List Int → World → Prop) (hY : ∀ m, RoundsAt m l N J Jx) (W : World) (hJ : AbidesFrom W.heap.size J) (h0 : J [] W) :
    CallsIn Fence.wide n Tryd.prog 57 #[.agg #[.int .i64 f, .int .i64 s, .int .i64 last], .func (.yield l) #[] #[]] W fun e W' => (∃ v, e = .returned v) ∧
      ((∃ ys, ys = lst7 N (rn f s) ∧ J ys W') ∨ (∃ pre, (∃ k, k ≤ N ∧ pre = lst7 k (rn f s)) ∧ Jx pre W')) := by
  obtain ⟨f0, f1, s0, s1, l1, lo, hi⟩ := hN
  refine callsIn_of_wp Tryd.func57 rfl trivial ?_ rfl
  simp only [Tryd.ntmps57, List.size_toArray, List.length_cons, List.length_nil, Nat.reduceAdd, Nat.reduceSub, Array.replicate_succ, Array.replicate_zero, List.push_toArray, List.append_toArray, List.nil_append, List.cons_append]
  gi_wp2
  have hR0 := RunAt.new W f s last
  have hJ0 : J [] (W.alloc (.cells #[.int .i64 f, .int .i64 s, .int .i64 last] 74)) := hJ _ _ _ none h0 (World.grownBy_alloc W _ none) (fun r e => by cases e)
  gi_loopw [4] (fun v wr => ∃ k : Nat, k ≤ N ∧ v = .int .i64 (rn f s k) ∧ J (lst7 k (rn f s)) wr ∧ RunAt wr W.heap.size f s last) (fun v _ => (last + 1 - intOf v).toNat)
  case atStart => exact ⟨0, Nat.zero_le _, by rw [rn_zero], hJ0, hR0⟩
  case round =>
    obtain ⟨k, hk, rfl, hJs, hR⟩ := hrel
    obtain ⟨a0, a1, a2⟩ := hR.cells
    by_cases hlt : k < N
    · obtain ⟨fn, tmps, assign, body, hy, hRd⟩ := hY (n - 1) _ (rn f s k) wr hJs (by rw [lst7_len]; exact hlt)
      have g1 := lo k hlt
      have g2 := rn_ge (f := f) s0 k
      have g3 := rn_succ f s k
      obtain ⟨x, hx⟩ : ∃ x, rn f s k = x := ⟨_, rfl⟩
      have HX : Hid (rn f s k = x) := hx
      rw [hx] at g1 g2 g3 hy
      rw [hx]
      clear hx
      gi_wp2
      refine ⟨fun h => (by cases h), hRd.mono ?_⟩
      rintro e W3 (⟨rfl, hJ3, hk3⟩ | ⟨rfl, hJx3⟩)
      · have hR3 := hR.kept hk3
        obtain ⟨b0, b1, b2⟩ := hR3.cells
        gi_wp2
        go_roundw
        case rel =>
          exact ⟨k + 1, by omega, by rw [g3], by rw [lst7_succ]; exact hJ3, hR3⟩
        case measure => simp [intOf]; omega
      · gi_wp2
        refine bodyPost_ret (results_none rfl _ _ _) rfl ?_
        exact ⟨⟨_, rfl⟩, .inr ⟨_, ⟨k + 1, by omega, (lst7_succ _ _).symm⟩, hJx3⟩⟩
    · obtain rfl : k = N := by omega
      gi_wp2
      go_end0
      exact ⟨⟨_, rfl⟩, .inl ⟨_, rfl, hJs⟩⟩
end Go.Proofs.YteibaiflljcghaaDoor
/- What may be ranged over; walks of over, of periods and of list of package period. -/
namespace Go.Proofs.YteibaiflljcghaaDoor
open Go.RowKit Go.Shelf
attribute [local go_sem] Oper.semAt_some

/-- A function that may be ranged over, for a run. -/
def IsSeq (w : World) (v : Value) (f s last : Int) : Prop :=
  ∃ Bh Br, v = .func (.func 78) #[] #[.pointer (some ⟨Bh, 0, none⟩), .pointer (some ⟨Br, 0, none⟩)] ∧ Boxed w Bh 72 (.func (.func 57) #[] #[]) ∧ RunAt w Br f s last
theorem RunAt.later {w w' : World} {b : Nat} {f s last : Int} (h : RunAt w b f s last) (hb : Below w.heap.size w w') : RunAt w' b f s last := h.kept (RunKept.of_below hb)
theorem Boxed.later {w w' : World} {b : Nat} {t : TypeId} {v : Value} (h : Boxed w b t v) (hb : Below w.heap.size w w') : Boxed w' b t v := (hb.block b h.lt).trans h
theorem IsSeq.later {w w' : World} {v : Value} {f s last : Int} (h : IsSeq w v f s last) (hb : Below w.heap.size w w') : IsSeq w' v f s last := by
  obtain ⟨Bh, Br, rfl, h1, h2⟩ := h
  exact ⟨Bh, Br, rfl, Boxed.later h1 hb, h2.later hb⟩

/-- A round that appends keeps runs. -/
theorem run_appended {W w1 : World} {n0 B k : Nat} {v u : Value} {xs : List Value} {tmp : Array Value} (hrow : W.ownsRow n0 3 1 v k xs) (hg : (W.alloc (.cells tmp 3)).grownBy w1 v.ownBlock) (hv1 : Boxed w1 B 41 u) (y : Value) : RunKept W (w1.setCell ⟨B, 0, none⟩ y) := by
  refine runKept_t (runKept_t (B := W.alloc (.cells tmp 3)) (RunKept.of_below ((Below.refl _ _).alloc (Nat.le_refl _) _)) (RunKept.of_grown hg (fun j o ej hj cs fr e => ?_))) (RunKept.of_grown (grownBy_setCell' w1 B y) (fun j o ej hj cs fr e => ?_))
  · rcases (hrow.alloc (.cells tmp 3)).2 with ⟨rfl, _⟩ | ⟨g, cap, cur, rfl, _, hgb, _⟩
    · simp [Value.ownBlock] at ej
    · obtain rfl : g = j := by simpa [Value.ownBlock] using ej
      rw [hgb] at hj; cases hj; cases e
  · cases ej
    rw [show w1.heap[B]? = _ from hv1] at hj
    cases hj; cases e

set_option maxHeartbeats 1000000 in
set_option maxRecDepth 100000 in
theorem seq_stops (n Bh Br : Nat) (f s last : Int) (N : Nat) (hN : Runs f s last N) (w : World) (h1 : Boxed w Bh 72 (.func (.func 57) #[] #[])) (h2 : RunAt w Br f s last) :
    SeqStopsK Fence.wide n Tryd.prog 78 #[.pointer (some ⟨Bh, 0, none⟩), .pointer (some ⟨Br, 0, none⟩)] (fun x : Int => #[Value.int .i64 x]) RunKept (fun ys => ys = lst7 N (rn f s)) (fun pre => ∃ k, k ≤ N ∧ pre = lst7 k (rn f s)) N w := fun l J Jx W hW hJ _ hY h0 => by
  have c0 := (Boxed.later h1 hW).cell
  obtain ⟨c1, c2, c3⟩ := (h2.later hW).cells
  have H := each_in (n - 1) l f s last N hN J Jx (fun m pre x W1 a b => round_any (hY pre x W1 a b)) W hJ h0
  refine callsIn_of_wp Tryd.func78 rfl trivial ?_ rfl
  simp only [Tryd.ntmps78, List.size_toArray, List.length_cons, List.length_nil, Nat.reduceAdd, Nat.reduceSub, Array.replicate_succ, Array.replicate_zero, List.push_toArray, List.append_toArray, List.nil_append, List.cons_append]
  gi_wp2
  refine ⟨trivial, fun h => (by cases h), H.mono ?_⟩
  rintro e w1 ⟨⟨u, rfl⟩, hR⟩
  gi_wp2
  go_end0
  exact ⟨⟨_, rfl⟩, hR⟩

set_option maxHeartbeats 1000000 in
set_option maxRecDepth 100000 in
theorem over_any (f s last : Int) (w : World) :
    Calls Tryd.prog 56 #[.func (.func 57) #[] #[], .agg #[.int .i64 f, .int .i64 s, .int .i64 last]] w fun r w' => ∃ u, r = .returned u ∧ IsSeq w' u f s last ∧ Below w.heap.size w w' := by
  have b1 := (Boxed.new w 72 (.func (.func 57) #[] #[])).alloc (.cells #[.int .i64 f, .int .i64 s, .int .i64 last] 74)
  have b2 := RunAt.new (w.alloc (.cells #[.func (.func 57) #[] #[]] 72)) f s last
  rw [World.size_alloc] at b2
  go_enter Tryd.func56, Tryd.ntmps56
  go_wp2_with fail
  go_ret
  exact ⟨_, rfl, ⟨_, _, rfl, b1, b2⟩, ((Below.refl _ _).alloc (by simp) _).alloc (by simp) _⟩

set_option maxHeartbeats 1000000 in
set_option maxRecDepth 100000 in
theorem periods_any (c t x m k e : Int) (w : World) :
    Calls Tryd.prog 53 #[.agg #[.int .i64 c, .int .i64 t, .int .i64 x, .int .i64 m, .int .i64 k, .int .i64 e]] w fun r w' => ∃ u, r = .returned u ∧ IsSeq w' u t 1 x ∧ Below w.heap.size w w' := by
  have hS : Six (w.alloc (.cells #[.int .i64 c, .int .i64 t, .int .i64 x, .int .i64 m, .int .i64 k, .int .i64 e] 24)) w.heap.size (Sp.at ⟨c, t, x, m, k, e⟩) := Six.new w ⟨c, t, x, m, k, e⟩
  obtain ⟨a0, a1, a2, a3, a4, a5, b0, b1, b2, b3, b4, b5⟩ := hS.sp
  go_enter Tryd.func53, Tryd.ntmps53
  go_wp2_with fail
  refine (over_any t 1 x _).mono ?_
  rintro r w1 ⟨u, rfl, hs, hb⟩
  go_wp2_with fail
  go_ret
  exact ⟨u, rfl, hs, ((Below.refl _ _).alloc (by simp) _).trans (hb.mono (by simp))⟩

set_option maxHeartbeats 2000000 in
set_option maxRecDepth 100000 in
/-- What is handed on, in order. -/
theorem perlist_any (f s last : Int) (N : Nat) (hN : Runs f s last N) (hN1 : N ≤ 100000) (v : Value) (w : World) (h : IsSeq w v f s last) :
    Calls Tryd.prog 52 #[v] w fun r w' => ∃ u, r = .returned u ∧ w'.ownsRow w.heap.size 3 1 u N (ivs (lst7 N (rn f s))) ∧ Below w.heap.size w w' := by
  obtain ⟨Bh, Br, rfl, h1, h2⟩ := h
  obtain ⟨i0, hi, hz0, hz1, hz2⟩ := info_parts Tryd.infoInt
  refine (callsIn_wide (n := 3)).1 ?_
  refine callsIn_of_wp_marks Tryd.func52 rfl trivial ?_ rfl
  simp only [Tryd.ntmps52, List.size_toArray, List.length_cons, List.length_nil, Nat.reduceAdd, Nat.reduceSub, Array.replicate_succ, Array.replicate_zero, List.push_toArray, List.append_toArray, List.nil_append, List.cons_append]
  gi_wp2
  have bO := Boxed.new w 41 (.slice none 0 0)
  have hB0 : Below w.heap.size w (w.alloc (.cells #[.slice none 0 0] 41)) := (Below.refl _ w).alloc (Nat.le_refl _) _
  refine wpIn_rangeFunc_ownG rfl (by omega) (gf := 78) (lb := #[.pointer (some ⟨Bh, 0, none⟩), .pointer (some ⟨Br, 0, none⟩)]) rfl trivial (enters_of Tryd.func78 (by kernel_rfl) rfl)
    (seq_stops _ Bh Br f s last N hN _ (Boxed.later h1 hB0) (h2.later hB0)) runKept_t runKept_b (Below.refl _ _) (fun _ => rfl)
    (fun pre W => (∃ v, Boxed W w.heap.size 41 v ∧ W.ownsRow w.heap.size 3 1 v pre.length (ivs pre) ∧ True) ∧ Below w.heap.size w W)
    (fun _ _ _ => False)
    (OwnFrom.and (Own.from (holdsRow_own w.heap.size w.heap.size 41 3 1 (fun pre => pre.length) (fun pre => ivs pre) (fun _ _ => True)) _) (ownFrom_below (Nat.le_refl _) (by simp)))
    (fun _ _ _ _ _ hs _ _ => hs)
    ⟨⟨_, bO, World.ownsRow_nil _ _ _ _, trivial⟩, hB0⟩
    (fun x => { tmps := #[.func (.func 78) #[] #[.pointer (some ⟨Bh, 0, none⟩), .pointer (some ⟨Br, 0, none⟩)], undef, .slice none 0 0, .pointer (some ⟨w.heap.size, 0, none⟩), .int .i64 x, .func (.func 78) #[] #[.pointer (some ⟨Bh, 0, none⟩), .pointer (some ⟨Br, 0, none⟩)], .int .i64 x, undef, undef, undef, undef, undef], defers := [] }) ?assign ?body ?done ?stop
  case assign =>
    intro l x W K hK
    gi_wp2
    exact hK
  case body =>
    rintro l pre x W ⟨⟨v, hv, hrow, _⟩, hB⟩ hlt
    have hc := hv.cell
    gi_wp2_with (gi_at_builtin; refine wpListIn_append_own _ rfl _ _ 41 rfl w.heap.size 3 i0 (.int .i64 0) 1 8 Tryd.underlying41 hi hz0 hz1 hz2 rfl (by decide) _ _ _ rfl (hrow.alloc _) ⟨W.heap.size, 0, none⟩ 1 1 [.int .i64 x] rfl rfl (cell_one_new _ _ _) (by simp [Value.oneCell']) (by unfold maxLen; omega) (by omega) (by have := hB.size; simp; omega) ?_; intro v' w1 hown' hgrow _; obtain ⟨g', cap', rfl⟩ := ownsRow_succ hown'; obtain ⟨hv1, hv2, hr2, hk2, hb2⟩ := hv.appended (by decide) hrow hB.size (Nat.le_refl _) hown' hgrow; have hc1 := hv1.cell; have hf1 := hv1.frozen; have hrk := run_appended hrow hgrow hv1)
    exact ⟨hk2.from _, hrk _, ⟨_, hv2, by simpa [ivs] using hr2, trivial⟩, hB.trans hb2⟩
  case done =>
    rintro D ys W hD rfl ⟨⟨v, hv, hrow, _⟩, hB⟩ hK
    have hc := hv.cell
    gi_wp2
    refine ⟨by simp, .inl ⟨_, _, rfl, run_takeDeferred hK, ?_⟩⟩
    refine ⟨_, results_tmp rfl _ _ _, v, rfl, ?_, hB.trans (belowK_b (w := w) (Nat.le_refl _) W D _ _ (by simp at hD; omega) hK rfl rfl)⟩
    have := ownsRow_putObj hrow (.deferred none) hK rfl
    rwa [lst7_len] at this
  case stop =>
    rintro D c pre W _ _ h _
    exact h.elim
end Go.Proofs.YteibaiflljcghaaDoor
/- The least period of units: walks of within and Of of package period. -/
namespace Go.Proofs.YteibaiflljcghaaDoor
open Go.RowKit Go.Shelf
attribute [local go_sem] Oper.semAt_some

/-- How many periods a task may have, and which. -/
def perN (s : Sp) : Nat := (s.x - s.t + 1).toNat
def perL (s : Sp) : List Int := lst7 (perN s) (rn s.t 1)
theorem per_runs {s : Sp} (h : maySp s = true) : Runs s.t 1 s.x (perN s) := by
  obtain ⟨c0, c1, f2, f3, f4, _⟩ := may_facts h
  have e : ((perN s : Nat) : Int) = s.x - s.t + 1 := by unfold perN; omega
  refine ⟨by omega, by omega, by omega, by omega, by omega, fun i hi => ?_, ?_⟩
  · unfold rn; have : (i : Int) < perN s := by exact_mod_cast hi
    omega
  · unfold rn; omega
end Go.Proofs.YteibaiflljcghaaDoor
/- Walks of All, near and Ends of package period. -/
namespace Go.Proofs.YteibaiflljcghaaDoor
open Go.RowKit Go.Shelf

/-- A list of the call's own. -/
def OwnL (w : World) (base : Nat) (v : Value) (xs : List Int) : Prop := w.ownsRow base 3 1 v xs.length (ivs xs)
theorem OwnL.nums {w : World} {base : Nat} {v : Value} {xs : List Int} (h : OwnL w base v xs) : Nums w v xs := (Nums.own h).1
theorem OwnL.nil (w : World) (base : Nat) : OwnL w base (.slice none 0 0) [] := World.ownsRow_nil _ _ _ _
theorem OwnL.lower {w : World} {b b' : Nat} {v : Value} {xs : List Int} (h : OwnL w b v xs) (hb : b' ≤ b) : OwnL w b' v xs := by
  obtain ⟨h1, h2⟩ := h
  refine ⟨h1, ?_⟩
  rcases h2 with h2 | ⟨g, cap, cur, h3, h4, h5⟩
  · exact .inl h2
  · exact .inr ⟨g, cap, cur, h3, Nat.le_trans hb h4, h5⟩

/-- The periods that a task may have. -/
def allL (s : Sp) : List Int := bif maySp s then perL s else []
theorem all_no {s : Sp} (h : maySp s = false) : allL s = [] := by unfold allL; rw [h]; rfl
theorem all_yes {s : Sp} (h : maySp s = true) : allL s = perL s := by unfold allL; rw [h]; rfl
set_option maxHeartbeats 1000000 in
set_option maxRecDepth 100000 in
theorem perAll_any (c t x m k e : Int) (w : World) :
    Calls Tryd.prog 39 #[.agg #[.int .i64 c, .int .i64 t, .int .i64 x, .int .i64 m, .int .i64 k, .int .i64 e]] w fun r w' => ∃ v, r = .returned v ∧ OwnL w' w.heap.size v (allL ⟨c, t, x, m, k, e⟩) ∧ Below w.heap.size w w' := by
  have hS : Six (w.alloc (.cells #[.int .i64 c, .int .i64 t, .int .i64 x, .int .i64 m, .int .i64 k, .int .i64 e] 24)) w.heap.size (Sp.at ⟨c, t, x, m, k, e⟩) := Six.new w ⟨c, t, x, m, k, e⟩
  cases h1 : maySp ⟨c, t, x, m, k, e⟩ with
  | false =>
    have H1 : Hid (maySp ⟨c, t, x, m, k, e⟩ = false) := h1
    rw [all_no h1]
    clear h1 hS
    go_enter Tryd.func39, Tryd.ntmps39
    go_wp2_with fail
    refine (spmay_any c t x m k e _).mono ?_
    rintro r w1 ⟨rfl, hb1⟩
    rw [H1.out]
    go_wp2_with fail
    go_ret
    exact ⟨_, rfl, OwnL.nil _ _, ((Below.refl _ _).alloc (by simp) _).trans (hb1.mono (by simp))⟩
  | true =>
    have hN := per_runs h1
    have hN1 : perN ⟨c, t, x, m, k, e⟩ ≤ 100000 := by
      obtain ⟨c0, c1, f2, f3, f4, _⟩ := may_facts h1
      unfold perN; simp only at *; omega
    have HL : Hid (allL ⟨c, t, x, m, k, e⟩ = lst7 (perN ⟨c, t, x, m, k, e⟩) (rn t 1)) := all_yes h1
    have H1 : Hid (maySp ⟨c, t, x, m, k, e⟩ = true) := h1
    clear h1
    go_enter Tryd.func39, Tryd.ntmps39
    go_wp2_with fail
    refine (spmay_any c t x m k e _).mono ?_
    rintro r w1 ⟨rfl, hb1⟩
    have hS1 := hS.later hb1
    replace hb1 : Below w.heap.size w w1 := ((Below.refl _ _).alloc (by simp) _).trans (hb1.mono (by simp))
    obtain ⟨a0, a1, a2, a3, a4, a5, b0, b1, b2, b3, b4, b5⟩ := hS1.sp
    clear hS
    rw [H1.out]
    go_wp2_with fail
    refine (periods_any c t x m k e _).mono ?_
    rintro r w2 ⟨sq, rfl, hs, hb2⟩
    replace hb2 := hb1.trans (hb2.mono hb1.size)
    clear hb1 hS1 a0 a1 a2 a3 a4 a5 b0 b1 b2 b3 b4 b5
    go_wp2_with fail
    refine (perlist_any t 1 x _ hN hN1 sq _ hs).mono ?_
    rintro r w3 ⟨v, rfl, hv, hb3⟩
    replace hb3 := hb2.trans (hb3.mono hb2.size)
    have hv' : OwnL w3 w.heap.size v (allL ⟨c, t, x, m, k, e⟩) := by
      rw [HL.out]
      refine OwnL.lower (b := w2.heap.size) ?_ hb2.size
      unfold OwnL
      rw [lst7_len]; exact hv
    clear hv
    go_wp2_with fail
    go_ret
    exact ⟨v, rfl, hv', hb3⟩

section
variable (c t x m k e p f u : Int)
end
end Go.Proofs.YteibaiflljcghaaDoor
/- The document's own answers of chapter 8: walks of Of, All and Ends; the chapter's example. -/
namespace Go.Proofs.YteibaiflljcghaaDoor
open Go.RowKit Go.Shelf
theorem at_le {s : Sp} {p u : Int} (h : maySp s = true) (h' : wiB p s.t s.x = true) : atV s p ≤ u ↔ s.c * s.m * 1048576 ≤ u * s.k * p := by
  obtain ⟨c0, c1, f2, f3, f4, ⟨m0, m1, k1⟩, _⟩ := may_facts h
  obtain ⟨p0, p1⟩ := of_decide_eq_true h'
  have e : atV s p = cl (s.c * s.m * 1048576) (s.k * p) := by unfold atV atB; rw [h, h']; rfl
  have hkp : 1 ≤ s.k * p := by
    have h1 : 1 * 1 ≤ s.k * p := Int.mul_le_mul (by omega) (by omega) (by omega) (by omega)
    omega
  rw [e, Int.mul_assoc u]
  refine ⟨fun hle => ?_, fun hle => cl_le_of hkp hle⟩
  have h1 := cl_ge (a := s.c * s.m * 1048576) hkp
  have h2 : cl (s.c * s.m * 1048576) (s.k * p) * (s.k * p) ≤ u * (s.k * p) := Int.mul_le_mul_of_nonneg_right hle (by omega)
  omega
end Go.Proofs.YteibaiflljcghaaDoor
/- What the statement PeriodTells comes to. -/
namespace Go.Proofs.YteibaiflljcghaaDoor
open Go.RowKit Go.Shelf

theorem all_len (s : Sp) : (allL s).length ≤ 100000 := by
  cases h : maySp s with
  | false => rw [all_no h]; exact Nat.zero_le _
  | true =>
    rw [all_yes h]
    unfold perL
    rw [lst7_len]
    obtain ⟨c0, c1, f2, f3, f4, _⟩ := may_facts h
    unfold perN; omega
end Go.Proofs.YteibaiflljcghaaDoor
/- What follows of the least period of units; what the statement PeriodUnits comes to. -/
namespace Go.Proofs.YteibaiflljcghaaDoor
open Go.RowKit Go.Shelf
theorem at_pos {s : Sp} {p : Int} (h : maySp s = true) (p0 : s.t ≤ p) (p1 : p ≤ s.x) : 1 ≤ atV s p ∧ atV s p ≤ 1048576 := by
  obtain ⟨c0, c1, f2, f3, f4, ⟨m0, m1, k1⟩, _⟩ := may_facts h
  have hw : wiB p s.t s.x = true := decide_eq_true ⟨p0, p1⟩
  have hcm : 1 * 1 ≤ s.c * s.m := Int.mul_le_mul c0 m0 (by omega) (by omega)
  constructor
  · have h1 := (at_le (u := atV s p) h hw).1 (Int.le_refl _)
    by_cases hz : 1 ≤ atV s p
    · exact hz
    · have h2 : atV s p * s.k ≤ 0 := Int.mul_nonpos_of_nonpos_of_nonneg (by omega) (by omega)
      have h3 : atV s p * s.k * p ≤ 0 := Int.mul_nonpos_of_nonpos_of_nonneg h2 (by omega)
      omega
  · refine (at_le h hw).2 ?_
    have h1 : s.c * s.m ≤ p * s.k := Int.mul_le_mul (by omega) m1 (by omega) (by omega)
    have e : 1048576 * s.k * p = p * s.k * 1048576 := by rw [Int.mul_assoc, Int.mul_comm, Int.mul_comm s.k p]
    rw [e]
    omega
end Go.Proofs.YteibaiflljcghaaDoor
/- Tasks at their periods, as they lie: seven numbers each; lists of them, that are read, and that are appended to. -/
namespace Go.Proofs.YteibaiflljcghaaDoor
open Go.RowKit Go.Shelf

theorem own_laterF {w w' : World} {base n : Nat} {e : TypeId} {size : Nat} {v : Value} {xs : List Value} (h : w.ownsRow base e size v n xs) (hb : Below w.heap.size w w') : w'.ownsRow base e size v n xs := by
  have hl := h.lt
  obtain ⟨h0, h1 | ⟨g, cap, cur, rfl, h2, h3, h4⟩⟩ := h
  · exact ⟨h0, .inl h1⟩
  · exact ⟨h0, .inr ⟨g, cap, cur, rfl, h2, by rw [hb.block g (hl g rfl).2]; exact h3, h4⟩⟩

/-- A task at its period. -/
structure Fx where
  c : Int
  t : Int
  x : Int
  m : Int
  k : Int
  e : Int
  p : Int
def Fx.at (f : Fx) (i : Nat) : Int := match i with
  | 0 => f.c
  | 1 => f.t
  | 2 => f.x
  | 3 => f.m
  | 4 => f.k
  | 5 => f.e
  | _ => f.p
def Fx.sp (f : Fx) : Sp := ⟨f.c, f.t, f.x, f.m, f.k, f.e⟩
def Fx.row (f : Fx) : List Value := [.int .i64 f.c, .int .i64 f.t, .int .i64 f.x, .int .i64 f.m, .int .i64 f.k, .int .i64 f.e, .int .i64 f.p]

/-- Seven numbers that lie in a block, and may be written. -/
def Sev (w : World) (b : Nat) (f : Fx) : Prop := ∀ i, i < 7 → w.cell? ⟨b, i, none⟩ = some (.int .i64 (f.at i)) ∧ w.frozen? ⟨b, i, none⟩ = false
theorem Sev.new (w : World) (c t x m k e p : Int) : Sev (w.alloc (.cells #[.int .i64 c, .int .i64 t, .int .i64 x, .int .i64 m, .int .i64 k, .int .i64 e, .int .i64 p] 26)) w.heap.size ⟨c, t, x, m, k, e, p⟩ := by
  intro i hi
  rcases (show i = 0 ∨ i = 1 ∨ i = 2 ∨ i = 3 ∨ i = 4 ∨ i = 5 ∨ i = 6 by omega) with rfl | rfl | rfl | rfl | rfl | rfl | rfl <;> exact ⟨by simp [Fx.at], by simp⟩
theorem Sev.later {w w' : World} {b : Nat} {f : Fx} (h : Sev w b f) (hb : Below w.heap.size w w') : Sev w' b f := by
  intro i hi
  obtain ⟨h1, h2⟩ := h i hi
  exact ⟨cell_later hb h1, (hb.frozen (p := ⟨b, i, none⟩) (World.block_lt_of_cell? _ _ h1)).trans h2⟩
theorem Sev.lt {w : World} {b : Nat} {f : Fx} (h : Sev w b f) : b < w.heap.size := World.block_lt_of_cell? _ _ (h 0 (by omega)).1
theorem Sev.fx {w : World} {b : Nat} {c t x m k e p : Int} (h : Sev w b ⟨c, t, x, m, k, e, p⟩) :
    w.cell? ⟨b, 0, none⟩ = some (.int .i64 c) ∧ w.cell? ⟨b, 1, none⟩ = some (.int .i64 t) ∧ w.cell? ⟨b, 2, none⟩ = some (.int .i64 x) ∧ w.cell? ⟨b, 3, none⟩ = some (.int .i64 m) ∧ w.cell? ⟨b, 4, none⟩ = some (.int .i64 k) ∧ w.cell? ⟨b, 5, none⟩ = some (.int .i64 e) ∧ w.cell? ⟨b, 6, none⟩ = some (.int .i64 p) :=
  ⟨(h 0 (by omega)).1, (h 1 (by omega)).1, (h 2 (by omega)).1, (h 3 (by omega)).1, (h 4 (by omega)).1, (h 5 (by omega)).1, (h 6 (by omega)).1⟩

/-- A list of tasks at their periods that is read. -/
def Fxs (w : World) (v : Value) (n : Nat) (f : Nat → Fx) : Prop :=
  ∃ a cap, v = .slice a n cap ∧ n ≤ cap ∧ cap ≤ maxLen ∧ (a = none → cap = 0) ∧ (0 < n → ∃ b o, a = some ⟨b, o, none⟩ ∧ ∀ i, i < n → ∀ j, j < 7 → w.cell? ⟨b, o + i * 7 + j, none⟩ = some (.int .i64 ((f i).at j)))
theorem Fxs.later {w w' : World} {v : Value} {n : Nat} {f : Nat → Fx} (h : Fxs w v n f) (hb : Below w.heap.size w w') : Fxs w' v n f := by
  obtain ⟨a, cap, rfl, h1, h2, h0, h3⟩ := h
  refine ⟨a, cap, rfl, h1, h2, h0, fun hx => ?_⟩
  obtain ⟨b, o, rfl, h4⟩ := h3 hx
  exact ⟨b, o, rfl, fun i hi j hj => cell_later hb (h4 i hi j hj)⟩
theorem Fxs.congr {w : World} {v : Value} {n : Nat} {f g : Nat → Fx} (h : Fxs w v n f) (hg : ∀ i, i < n → f i = g i) : Fxs w v n g := by
  obtain ⟨a, cap, rfl, h1, h2, h0, h3⟩ := h
  refine ⟨a, cap, rfl, h1, h2, h0, fun hx => ?_⟩
  obtain ⟨b, o, rfl, h4⟩ := h3 hx
  exact ⟨b, o, rfl, fun i hi j hj => by rw [← hg i hi]; exact h4 i hi j hj⟩
/-- One alone. -/
theorem Fxs.one {w : World} {b : Nat} {f : Fx} (h : Sev w b f) : Fxs w (.slice (some ⟨b, 0, none⟩) 1 1) 1 (fun _ => f) :=
  ⟨_, 1, rfl, Nat.le_refl _, by unfold maxLen; omega, fun h => by simp at h, fun _ => ⟨b, 0, rfl, fun i hi j hj => by
    obtain rfl : i = 0 := by omega
    have := (h j hj).1
    rw [show 0 + 0 * 7 + j = j by omega]; exact this⟩⟩
/-- The seven numbers of one of them. -/
theorem row_open {w : World} {b o : Nat} {f : Fx} (h : ∀ j, j < 7 → w.cell? ⟨b, o + j, none⟩ = some (.int .i64 (f.at j))) :
    w.cell? ⟨b, o, none⟩ = some (.int .i64 f.c) ∧ w.cell? ⟨b, o + 1, none⟩ = some (.int .i64 f.t) ∧ w.cell? ⟨b, o + 2, none⟩ = some (.int .i64 f.x) ∧ w.cell? ⟨b, o + 3, none⟩ = some (.int .i64 f.m) ∧ w.cell? ⟨b, o + 4, none⟩ = some (.int .i64 f.k) ∧ w.cell? ⟨b, o + 5, none⟩ = some (.int .i64 f.e) ∧ w.cell? ⟨b, o + 6, none⟩ = some (.int .i64 f.p) :=
  ⟨h 0 (by omega), h 1 (by omega), h 2 (by omega), h 3 (by omega), h 4 (by omega), h 5 (by omega), h 6 (by omega)⟩

/-- Tasks, as cells. -/
def flatF (n : Nat) (f : Nat → Fx) : List Value := (List.range n).flatMap fun i => (f i).row
theorem flatF_succ (n : Nat) (f : Nat → Fx) : flatF (n + 1) f = flatF n f ++ (f n).row := by
  unfold flatF; rw [List.range_succ, List.flatMap_append]; simp
theorem flatF_len (n : Nat) (f : Nat → Fx) : (flatF n f).length = n * 7 := by
  induction n with
  | zero => rfl
  | succ n ih => rw [flatF_succ, List.length_append, ih]; simp [Fx.row]; omega
theorem row_at (f : Fx) (j : Nat) (h : j < 7) : f.row[j]? = some (.int .i64 (f.at j)) := by
  rcases (show j = 0 ∨ j = 1 ∨ j = 2 ∨ j = 3 ∨ j = 4 ∨ j = 5 ∨ j = 6 by omega) with rfl | rfl | rfl | rfl | rfl | rfl | rfl <;> rfl
theorem flatF_at (n : Nat) (f : Nat → Fx) (i j : Nat) (h : i < n) (hj : j < 7) : (flatF n f)[i * 7 + j]? = some (.int .i64 ((f i).at j)) := by
  induction n with
  | zero => omega
  | succ n ih =>
    rw [flatF_succ]
    have hl := flatF_len n f
    rcases Nat.lt_succ_iff_lt_or_eq.1 h with h1 | rfl
    · rw [List.getElem?_append_left (by omega)]
      exact ih h1
    · rw [List.getElem?_append_right (by omega), hl, show i * 7 + j - i * 7 = j by omega]
      exact row_at _ _ hj
theorem flatF_one (n : Nat) (f : Nat → Fx) : ∀ u ∈ flatF n f, u.oneCell' = true := by
  intro u hu
  obtain ⟨i, _, hx⟩ := List.mem_flatMap.1 hu
  simp [Fx.row] at hx
  rcases hx with rfl | rfl | rfl | rfl | rfl | rfl | rfl <;> rfl
theorem flatF_congr {n : Nat} {f g : Nat → Fx} (h : ∀ i, i < n → f i = g i) : flatF n f = flatF n g := by
  induction n with
  | zero => rfl
  | succ n ih => rw [flatF_succ, flatF_succ, ih (fun i hi => h i (by omega)), h n (by omega)]
/-- Some, and others behind them. -/
def cat9 (n : Nat) (f g : Nat → Fx) (i : Nat) : Fx := if i < n then f i else g (i - n)
theorem cat9_left {n : Nat} {f g : Nat → Fx} {i : Nat} (h : i < n) : cat9 n f g i = f i := if_pos h
theorem cat9_right {n : Nat} {f g : Nat → Fx} {i : Nat} (h : n ≤ i) : cat9 n f g i = g (i - n) := if_neg (by omega)
theorem flatF_app (n m : Nat) (f g : Nat → Fx) : flatF n f ++ flatF m g = flatF (n + m) (cat9 n f g) := by
  induction m with
  | zero =>
    rw [show flatF 0 g = [] from rfl, List.append_nil]
    exact flatF_congr fun i hi => (cat9_left hi).symm
  | succ m ih =>
    rw [flatF_succ, ← List.append_assoc, ih, show n + (m + 1) = n + m + 1 by omega, flatF_succ, cat9_right (by omega), show n + m - n = m by omega]

/-- Tasks of the call's own. -/
def OwnF (w : World) (base : Nat) (v : Value) (n : Nat) (f : Nat → Fx) : Prop := w.ownsRow base 26 7 v n (flatF n f)
theorem OwnF.nil (w : World) (base : Nat) (f : Nat → Fx) : OwnF w base (.slice none 0 0) 0 f := World.ownsRow_nil _ _ _ _
theorem OwnF.fxs {w : World} {base : Nat} {v : Value} {n : Nat} {f : Nat → Fx} (h : OwnF w base v n f) : Fxs w v n f := by
  unfold OwnF at h
  have hcs := fun g hg => h.cells (g := g) hg
  obtain ⟨_, ⟨rfl, hz⟩ | ⟨g, cap, cur, rfl, hb, hh, h1, h2, _⟩⟩ := h
  · subst hz
    exact ⟨none, 0, rfl, by simp, by simp, fun _ => rfl, fun h => by omega⟩
  · refine ⟨_, cap, rfl, h1, h2, fun h => by simp at h, fun _ => ⟨g, 0, rfl, fun i hi j hj => ?_⟩⟩
    have k0 := hcs g rfl _ _ (flatF_at n f i j hi hj)
    rw [Go.WideShapes.add_plain] at k0
    rw [Nat.add_assoc]; exact k0

theorem Tryd.infoFix : (Tryd.prog.info? 26).map (fun i => (i.zero, i.size, i.bytes)) = some (some (.agg #[.int .i64 0, .int .i64 0, .int .i64 0, .int .i64 0, .int .i64 0, .int .i64 0, .int .i64 0]), 7, 56) := by kernel_rfl

/-- What an append of tasks comes to. -/
theorem wp_append_fix {w : World} {o : Oper} {act : Act} {K : Act → World → Prop} {Q : Exit → Act → World → Prop} (s x : Operand)
    (ho : o.op = .call { callee := .builtin .append, args := #[s, x], argTypes := #[22, 22] }) (base : Nat) (v u : Value) (n m : Nat) (f g : Nat → Fx)
    (hs : act.eval s = v) (hown : OwnF w base v n f) (hx : act.eval x = u) (hr : Fxs w u m g) (hn : n + m ≤ 100000) (hbase : base ≤ w.heap.size)
    (h : ∀ v' w', OwnF w' base v' (n + m) (cat9 n f g) → Below base w w' → K (act.put o.dst v') w') : Oper.wp Tryd.prog o act w K Q := by
  obtain ⟨i0, hi, hz0, hz1, hz2⟩ := info_parts Tryd.infoFix
  unfold OwnF at hown
  have hlow := hown.lt
  obtain ⟨a, cap, rfl, h1, h2, h0, h3⟩ := hr
  have m1 : n + m ≤ maxLen := by unfold maxLen; omega
  have main : ∀ (ad : Addr), a = some ad → (∀ j q, (flatF m g)[j]? = some q → w.cell? (ad.add j) = some q) → Oper.wp Tryd.prog o act w K Q := by
    intro ad ha hcells
    subst ha
    refine wp_append_own w s x 22 ho base 26 i0 _ 7 56 Tryd.underlying22 hi hz0 hz1 hz2 rfl (by decide) v n (flatF n f) hs hown ad m cap (flatF m g) hx (by rw [flatF_len]) hcells (flatF_one _ _) m1 (by omega) hbase ?_
    intro v' w' g1 g2 _
    rw [flatF_app] at g1
    exact h v' w' g1 ((Below.refl _ _).grown g2 hbase fun k hk => (hlow k hk).1)
  cases a with
  | none =>
    obtain rfl := h0 rfl
    obtain rfl : m = 0 := by omega
    have hr := run_append_owned_none (P := Tryd.prog) (w := w) base 22 o.type 26 i0 7 Tryd.underlying22 hi v n (flatF n f) hown
    unfold Oper.wp execOp
    have hx' : act.eval x = .slice none 0 0 := hx
    simp only [ho, resolve, invoke, builtin, Sem.run_bind, Sem.run_pure, Result.andThen_ok, List.map_toArray, List.map_cons, List.map_nil, hs, hx', hr]
    refine h v w ?_ (Below.refl _ _)
    unfold OwnF
    rw [← flatF_app, show flatF 0 g = [] from rfl, List.append_nil]
    exact hown
  | some ad =>
    refine main ad rfl (fun j q hq => ?_)
    have hj : j < (flatF m g).length := (List.getElem?_eq_some_iff.1 hq).1
    rw [flatF_len] at hj
    obtain ⟨b, oo, he, h4⟩ := h3 (by omega)
    obtain rfl : ad = ⟨b, oo, none⟩ := by simpa using he
    have k0 := flatF_at m g (j / 7) (j % 7) (by omega) (by omega)
    rw [show j / 7 * 7 + j % 7 = j by omega] at k0
    rw [k0] at hq
    rw [← hq, Go.WideShapes.add_plain]
    have := h4 (j / 7) (by omega) (j % 7) (by omega)
    rwa [show oo + j / 7 * 7 + j % 7 = oo + j by omega] at this
theorem append_fix {w : World} {ops : Array Oper} {rest : List Oper} {o : Oper} {act : Act} {Q : Exit → Act → World → Prop} (hgd : o.guard = Option.none) (s x : Operand)
    (ho : o.op = .call { callee := .builtin .append, args := #[s, x], argTypes := #[22, 22] }) (base : Nat) (v u : Value) (n m : Nat) (f g : Nat → Fx)
    (hs : act.eval s = v) (hown : OwnF w base v n f) (hx : act.eval x = u) (hr : Fxs w u m g) (hn : n + m ≤ 100000) (hbase : base ≤ w.heap.size)
    (h : ∀ v' w', OwnF w' base v' (n + m) (cat9 n f g) → Below base w w' → wpList Tryd.prog ops Q rest (act.put o.dst v') w') : wpList Tryd.prog ops Q (o :: rest) act w := by
  refine wpList_plain hgd fun K hK => ?_
  exact wp_append_fix s x ho base v u n m f g hs hown hx hr hn hbase fun v' w' h1 h2 => hK _ _ (h v' w' h1 h2)
theorem step_append_fix {w : World} {ops : Array Oper} {o : Oper} {act : Act} {K : Act → World → Prop} {Q : Exit → Act → World → Prop} {E : Prop} (hgd : o.guard = Option.none) (s x : Operand)
    (ho : o.op = .call { callee := .builtin .append, args := #[s, x], argTypes := #[22, 22] }) (base : Nat) (v u : Value) (n m : Nat) (f g : Nat → Fx)
    (hs : act.eval s = v) (hown : OwnF w base v n f) (hx : act.eval x = u) (hr : Fxs w u m g) (hn : n + m ≤ 100000) (hbase : base ≤ w.heap.size)
    (h : ∀ v' w', OwnF w' base v' (n + m) (cat9 n f g) → Below base w w' → K (act.put o.dst v') w') :
    if Region.wanted o (yielded ops act.tmps) = true then Oper.wp Tryd.prog o act w K Q else E := by
  have hw : Region.wanted o (yielded ops act.tmps) = true := by simp [Region.wanted, hgd]
  rw [if_pos hw]
  exact wp_append_fix s x ho base v u n m f g hs hown hx hr hn hbase h
end Go.Proofs.YteibaiflljcghaaDoor
/- What must be done of tasks at their periods, the horizon, and the first stretch that is too short: plain. -/
namespace Go.Proofs.YteibaiflljcghaaDoor
open Go.RowKit

theorem sm_nn9 {n : Nat} {f : Nat → Int} (h : ∀ i, i < n → 0 ≤ f i) : 0 ≤ sm n f := by rw [← sm_zero n]; exact sm_le h
theorem mul_one9 {a b : Int} (ha : 1 ≤ a) (hb : 1 ≤ b) : 1 ≤ a * b := by
  have := Int.mul_le_mul_of_nonneg_left hb (show 0 ≤ a by omega)
  omega
/-- May a task at its period be? -/
def knB (f : Fx) : Bool := maySp f.sp && wiB f.p f.t f.x
def ofB9 (f : Fx) (n : Int) : Bool := knB f && wiB n 0 1099511627776
/-- How much of one must be done, at most. -/
def ofV9 (f : Fx) (n : Int) : Int := bif ofB9 f n then f.c * mostV f.m f.k (n / f.p) else 0
def allS (l : Nat) (f : Nat → Fx) (n : Int) : Int := sm l (fun i => ofV9 (f i) n)
/-- How much of all. -/
def allV9 (l : Nat) (f : Nat → Fx) (n : Int) : Int := if l ≤ 1000 then allS l f n else 0
/-- The units of each. -/
def uns (f : Nat → Fx) (i : Nat) : Int := atV (f i).sp (f i).p
def csF (f : Nat → Fx) (i : Nat) : Int := (f i).c
def knAll (l : Nat) (f : Nat → Fx) : Bool := (List.range l).all fun i => knB (f i)
/-- May they be? -/
def may9 (l : Nat) (f : Nat → Fx) : Bool := decide (l ≤ 4) && (knAll l f && decide (sm l (uns f) ≤ 983040))
def hor9 (l : Nat) (f : Nat → Fx) : Int := bif may9 l f then 16 * sm l (csF f) else 0
/-- The first stretch ahead of h in which more must be done than it is long. -/
def fst9 (g : Int → Int) : Nat → Int
  | 0 => 0
  | h + 1 => if fst9 g h = 0 then (if 1 ≤ h ∧ (h : Int) < g h then h else 0) else fst9 g h
def first9 (l : Nat) (f : Nat → Fx) : Int := fst9 (allV9 l f) (hor9 l f).toNat
def tst9 (l : Nat) (f : Nat → Fx) : Bool := may9 l f && decide (first9 l f = 0)

theorem knAll_of {l : Nat} {f : Nat → Fx} (h : knAll l f = true) {i : Nat} (hi : i < l) : knB (f i) = true := by
  unfold knAll at h; rw [List.all_eq_true] at h; exact h i (List.mem_range.2 hi)
theorem knAll_yes {l : Nat} {f : Nat → Fx} (h : ∀ i, i < l → knB (f i) = true) : knAll l f = true := by
  unfold knAll; rw [List.all_eq_true]; exact fun i hi => h i (List.mem_range.1 hi)
theorem knAll_no {l : Nat} {f : Nat → Fx} {i : Nat} (hi : i < l) (h : knB (f i) = false) : knAll l f = false := by
  cases hk : knAll l f with
  | false => rfl
  | true => rw [knAll_of hk hi] at h; cases h
theorem may9_facts {l : Nat} {f : Nat → Fx} (h : may9 l f = true) : l ≤ 4 ∧ knAll l f = true ∧ sm l (uns f) ≤ 983040 := by
  unfold may9 at h
  rw [Bool.and_eq_true, Bool.and_eq_true] at h
  exact ⟨of_decide_eq_true h.1, h.2.1, of_decide_eq_true h.2.2⟩
theorem may9_yes {l : Nat} {f : Nat → Fx} (h1 : l ≤ 4) (h2 : knAll l f = true) (h3 : sm l (uns f) ≤ 983040) : may9 l f = true := by
  unfold may9; rw [decide_eq_true h1, h2, decide_eq_true h3]; rfl
theorem may9_long {l : Nat} {f : Nat → Fx} (h : ¬ l ≤ 4) : may9 l f = false := by unfold may9; rw [decide_eq_false h]; rfl
theorem may9_kn {l : Nat} {f : Nat → Fx} (h : knAll l f = false) : may9 l f = false := by unfold may9; rw [h]; simp
theorem hor9_no {l : Nat} {f : Nat → Fx} (h : may9 l f = false) : hor9 l f = 0 := by unfold hor9; rw [h]; rfl
theorem hor9_yes {l : Nat} {f : Nat → Fx} (h : may9 l f = true) : hor9 l f = 16 * sm l (csF f) := by unfold hor9; rw [h]; rfl

theorem kn_facts {f : Fx} (h : knB f = true) : maySp f.sp = true ∧ 1 ≤ f.c ∧ f.c ≤ 6 ∧ f.c ≤ f.t ∧ f.t ≤ f.p ∧ f.p ≤ f.x ∧ f.x ≤ 48 ∧ 1 ≤ f.m ∧ f.m ≤ f.k ∧ f.k ≤ 6 := by
  unfold knB at h
  rw [Bool.and_eq_true] at h
  obtain ⟨p0, p1⟩ := of_decide_eq_true h.2
  obtain ⟨c0, c1, f2, f3, f4, ⟨m0, m1, k1⟩, _⟩ := may_facts h.1
  exact ⟨h.1, c0, c1, f2, p0, p1, f4, m0, m1, k1⟩
theorem of9_no {f : Fx} {n : Int} (h : ofB9 f n = false) : ofV9 f n = 0 := by unfold ofV9; rw [h]; rfl
theorem of9_yes {f : Fx} {n : Int} (h : knB f = true) (n0 : 0 ≤ n) (n1 : n ≤ 1099511627776) : ofV9 f n = f.c * du f.m f.k (n / f.p) := by
  obtain ⟨_, c0, c1, c2, p0, p1, x1, m0, m1, k1⟩ := kn_facts h
  have hw : wiB n 0 1099511627776 = true := decide_eq_true ⟨n0, n1⟩
  have hb : ofB9 f n = true := by unfold ofB9; rw [h, hw]; rfl
  have hd : 0 ≤ n / f.p := Int.ediv_nonneg n0 (by omega)
  have hd1 : n / f.p ≤ n := Int.ediv_le_self _ n0
  unfold ofV9
  rw [hb, mostV_in m0 m1 k1 hd (by omega)]; rfl
theorem du_self {m k n : Int} (m0 : 1 ≤ m) (mk : m ≤ k) (n0 : 0 ≤ n) : du m k n ≤ n := cl_le_of (by omega) (Int.mul_le_mul_of_nonneg_left mk n0)
theorem du_mono9 {m k a b : Int} (m0 : 1 ≤ m) (mk : m ≤ k) (h : a ≤ b) : du m k a ≤ du m k b := cl_mono6 (by omega) (Int.mul_le_mul_of_nonneg_right h (by omega))
theorem of_bd (f : Fx) (n : Int) : 0 ≤ ofV9 f n ∧ ofV9 f n ≤ 1099511627776 ∧ (0 ≤ n → ofV9 f n ≤ n) := by
  cases hb : ofB9 f n with
  | false => rw [of9_no hb]; omega
  | true =>
    unfold ofB9 at hb
    rw [Bool.and_eq_true] at hb
    obtain ⟨n0, n1⟩ := of_decide_eq_true hb.2
    rw [of9_yes hb.1 n0 n1]
    obtain ⟨_, c0, c1, c2, p0, p1, x1, m0, m1, k1⟩ := kn_facts hb.1
    have hd : 0 ≤ n / f.p := Int.ediv_nonneg n0 (by omega)
    have d0 := du_nonneg m0 m1 k1 hd
    have d1 := du_self m0 m1 hd
    have h0 : 0 ≤ f.c * du f.m f.k (n / f.p) := Int.mul_nonneg (by omega) d0
    have h1 : f.c * du f.m f.k (n / f.p) ≤ f.p * (n / f.p) := Int.mul_le_mul (by omega) d1 d0 (by omega)
    have h2 : n / f.p * f.p ≤ n := Int.ediv_mul_le _ (by omega)
    rw [Int.mul_comm] at h2
    exact ⟨h0, by omega, fun _ => by omega⟩
theorem allS_bd (l : Nat) (f : Nat → Fx) (n : Int) : 0 ≤ allS l f n ∧ allS l f n ≤ l * 1099511627776 := by
  refine ⟨sm_nn9 fun i _ => (of_bd (f i) n).1, ?_⟩
  rw [← sm_const]
  exact sm_le fun i _ => (of_bd (f i) n).2.1
theorem of_mono {f : Fx} {a b : Int} (h0 : 0 ≤ a) (h : a ≤ b) (h1 : b ≤ 1099511627776) : ofV9 f a ≤ ofV9 f b := by
  cases hk : knB f with
  | false =>
    have e : ∀ n, ofV9 f n = 0 := fun n => of9_no (by unfold ofB9; rw [hk]; rfl)
    rw [e, e]; exact Int.le_refl _
  | true =>
    rw [of9_yes hk h0 (by omega), of9_yes hk (by omega) h1]
    obtain ⟨_, c0, c1, c2, p0, p1, x1, m0, m1, k1⟩ := kn_facts hk
    exact Int.mul_le_mul_of_nonneg_left (du_mono9 m0 m1 (Int.ediv_le_ediv (by omega) h)) (by omega)
theorem all_mono {l : Nat} {f : Nat → Fx} {a b : Int} (h0 : 0 ≤ a) (h : a ≤ b) (h1 : b ≤ 1099511627776) : allS l f a ≤ allS l f b := sm_le fun _ _ => of_mono h0 h h1
/-- The same task at another period. -/
def Fx.per (f : Fx) (p : Int) : Fx := ⟨f.c, f.t, f.x, f.m, f.k, f.e, p⟩
theorem kn_per {f : Fx} {p : Int} (h : knB f = true) (h0 : f.p ≤ p) (h1 : p ≤ f.x) : knB (f.per p) = true := by
  obtain ⟨hs, c0, c1, c2, p0, p1, x1, m0, m1, k1⟩ := kn_facts h
  unfold knB wiB
  rw [show (f.per p).sp = f.sp from rfl, hs]
  show decide (f.t ≤ p ∧ p ≤ f.x) = true
  exact decide_eq_true ⟨by omega, h1⟩
theorem div_anti {n p q : Int} (n0 : 0 ≤ n) (p0 : 1 ≤ p) (h : p ≤ q) : n / q ≤ n / p := by
  have h1 : n / q * q ≤ n := Int.ediv_mul_le _ (by omega)
  have h2 : 0 ≤ n / q := Int.ediv_nonneg n0 (by omega)
  have h3 : n / q * p ≤ n / q * q := Int.mul_le_mul_of_nonneg_left h h2
  exact (Int.le_ediv_iff_mul_le (by omega)).2 (by omega)
theorem of_per {f : Fx} {p n : Int} (h : knB f = true) (h0 : f.p ≤ p) (h1 : p ≤ f.x) (n0 : 0 ≤ n) (n1 : n ≤ 1099511627776) : ofV9 (f.per p) n ≤ ofV9 f n := by
  rw [of9_yes h n0 n1, of9_yes (kn_per h h0 h1) n0 n1]
  obtain ⟨hs, c0, c1, c2, p0, p1, x1, m0, m1, k1⟩ := kn_facts h
  exact Int.mul_le_mul_of_nonneg_left (du_mono9 m0 m1 (div_anti n0 (by omega) h0)) (show 0 ≤ f.c by omega)
theorem un_per {f : Fx} {p : Int} (h : knB f = true) (h0 : f.p ≤ p) (h1 : p ≤ f.x) : atV (f.per p).sp (f.per p).p ≤ atV f.sp f.p := by
  obtain ⟨hs, c0, c1, c2, p0, p1, x1, m0, m1, k1⟩ := kn_facts h
  rw [show (f.per p).sp = f.sp from rfl, show (f.per p).p = p from rfl, atV_yes hs (show f.sp.t ≤ p by show f.t ≤ p; omega) h1, atV_yes hs p0 p1]
  have e1 : 1 ≤ f.sp.c * f.sp.m := mul_one9 c0 m0
  refine cl_anti (by omega) ?_ (Int.mul_le_mul_of_nonneg_left h0 (by show 0 ≤ f.k; omega))
  exact mul_one9 (show 1 ≤ f.k by omega) (show 1 ≤ f.p by omega)
/-- The same task, all jobs of which are mandatory. -/
def Fx.full (f : Fx) : Fx := ⟨f.c, f.t, f.x, f.k, f.k, f.e, f.p⟩
theorem kn_full {f : Fx} (h : knB f = true) : knB f.full = true := by
  have h' := h
  unfold knB at h' ⊢
  rw [Bool.and_eq_true] at h'
  rw [Bool.and_eq_true]
  refine ⟨?_, h'.2⟩
  have hf := h'.1
  rw [maySp_eq] at hf ⊢
  have := of_decide_eq_true hf
  refine decide_eq_true ?_
  simp only [Fx.sp, Fx.full] at this ⊢
  omega
theorem of_full {f : Fx} {n : Int} (n0 : 0 ≤ n) (n1 : n ≤ 1099511627776) : ofV9 f n ≤ ofV9 f.full n := by
  cases hk : knB f with
  | false =>
    have e : ofV9 f n = 0 := of9_no (by unfold ofB9; rw [hk]; rfl)
    rw [e]; exact (of_bd f.full n).1
  | true =>
    rw [of9_yes hk n0 n1, of9_yes (kn_full hk) n0 n1]
    obtain ⟨hs, c0, c1, c2, p0, p1, x1, m0, m1, k1⟩ := kn_facts hk
    have hd : 0 ≤ n / f.p := Int.ediv_nonneg n0 (by omega)
    exact Int.mul_le_mul_of_nonneg_left (cl_mono6 (show 1 ≤ f.k by omega) (Int.mul_le_mul_of_nonneg_left m1 hd)) (show 0 ≤ f.c by omega)

/-- What must be done of one is no more than its units by the stretch, and one job. -/
theorem of_units {f : Fx} {n : Int} (h : knB f = true) (n0 : 0 ≤ n) (n1 : n ≤ 1099511627776) : 1048576 * ofV9 f n ≤ n * atV f.sp f.p + 1048576 * f.c := by
  rw [of9_yes h n0 n1]
  obtain ⟨hs, c0, c1, c2, p0, p1, x1, m0, m1, k1⟩ := kn_facts h
  rw [atV_yes hs p0 p1]
  have hd : 0 ≤ n / f.p := Int.ediv_nonneg n0 (by omega)
  have q1 : n / f.p * f.p ≤ n := Int.ediv_mul_le _ (by omega)
  have hkp : 1 ≤ f.k * f.p := mul_one9 (by omega) (by omega)
  have u1 : f.c * f.m * 1048576 ≤ cl (f.c * f.m * 1048576) (f.k * f.p) * (f.k * f.p) := cl_ge hkp
  have d1 : (du f.m f.k (n / f.p) - 1) * f.k < n / f.p * f.m := cl_lt (a := n / f.p * f.m) (show 1 ≤ f.k by omega)
  show 1048576 * (f.c * du f.m f.k (n / f.p)) ≤ n * cl (f.c * f.m * 1048576) (f.k * f.p) + 1048576 * f.c
  generalize cl (f.c * f.m * 1048576) (f.k * f.p) = u at *
  generalize du f.m f.k (n / f.p) = d at *
  generalize n / f.p = q at *
  have a1 : 1048576 * f.c * (d - 1) * (f.k * f.p) ≤ 1048576 * f.c * f.m * (q * f.p) := by
    have e1 : 1048576 * f.c * (d - 1) * (f.k * f.p) = ((d - 1) * f.k) * (1048576 * f.c * f.p) := by ac_rfl
    have e2 : 1048576 * f.c * f.m * (q * f.p) = (q * f.m) * (1048576 * f.c * f.p) := by ac_rfl
    rw [e1, e2]
    exact Int.mul_le_mul_of_nonneg_right (by omega) (Int.mul_nonneg (by omega) (by omega))
  have a2 : 1048576 * f.c * f.m * (q * f.p) ≤ 1048576 * f.c * f.m * n := Int.mul_le_mul_of_nonneg_left q1 (Int.mul_nonneg (by omega) (by omega))
  have a3 : 1048576 * f.c * f.m * n ≤ (n * u) * (f.k * f.p) := by
    have e1 : 1048576 * f.c * f.m * n = (f.c * f.m * 1048576) * n := by ac_rfl
    have e2 : (n * u) * (f.k * f.p) = (u * (f.k * f.p)) * n := by ac_rfl
    rw [e1, e2]
    exact Int.mul_le_mul_of_nonneg_right u1 n0
  have a4 : 1048576 * f.c * (d - 1) ≤ n * u := Int.le_of_mul_le_mul_right (Int.le_trans a1 (Int.le_trans a2 a3)) (by omega)
  have e3 : 1048576 * f.c * (d - 1) = 1048576 * (f.c * d) - 1048576 * f.c := by rw [Int.mul_sub, Int.mul_one, Int.mul_assoc]
  omega
/-- From the horizon on no stretch is too short. -/
theorem beyond {l : Nat} {f : Nat → Fx} {n : Int} (h : may9 l f = true) (hn : hor9 l f ≤ n) (n1 : n ≤ 1099511627776) : allS l f n ≤ n := by
  obtain ⟨l4, hk, hu⟩ := may9_facts h
  rw [hor9_yes h] at hn
  have hc : 0 ≤ sm l (csF f) := sm_nn9 fun i hi => by have := kn_facts (knAll_of hk hi); unfold csF; omega
  have n0 : 0 ≤ n := by omega
  have h1 : sm l (fun i => 1048576 * ofV9 (f i) n) ≤ sm l (fun i => n * uns f i + 1048576 * csF f i) := sm_le fun i hi => of_units (knAll_of hk hi) n0 n1
  rw [sm_mul, sm_add, sm_mul, sm_mul] at h1
  have h2 : n * sm l (uns f) ≤ n * 983040 := Int.mul_le_mul_of_nonneg_left hu n0
  unfold allS
  generalize sm l (fun i => ofV9 (f i) n) = a at *
  generalize n * sm l (uns f) = b at *
  omega

/-- What the first stretch is that is too short. -/
def IsFst (g : Int → Int) (h r : Int) : Prop := (r = 0 ∧ ∀ i, 1 ≤ i → i < h → g i ≤ i) ∨ (1 ≤ r ∧ r < h ∧ r < g r ∧ ∀ i, 1 ≤ i → i < r → g i ≤ i)
theorem IsFst.unique {g : Int → Int} {h r s : Int} (hr : IsFst g h r) (hs : IsFst g h s) : r = s := by
  rcases hr with ⟨rfl, h1⟩ | ⟨r0, r1, r2, r3⟩ <;> rcases hs with ⟨rfl, h2⟩ | ⟨s0, s1, s2, s3⟩
  · rfl
  · have := h1 s s0 s1; omega
  · have := h2 r r0 r1; omega
  · by_cases c : r < s
    · have := s3 r r0 c; omega
    · by_cases c' : s < r
      · have := r3 s s0 c'; omega
      · omega
theorem fst9_is (g : Int → Int) (h : Nat) : IsFst g h (fst9 g h) := by
  induction h with
  | zero => exact .inl ⟨rfl, fun i _ _ => by omega⟩
  | succ h ih =>
    unfold fst9
    by_cases c : fst9 g h = 0
    · rw [if_pos c]
      have h0 : ∀ i, 1 ≤ i → i < (h : Int) → g i ≤ i := by
        rcases ih with ⟨_, h1⟩ | ⟨r0, _⟩
        · exact h1
        · omega
      by_cases c1 : 1 ≤ h ∧ (h : Int) < g h
      · rw [if_pos c1]
        exact .inr ⟨by omega, by omega, c1.2, h0⟩
      · rw [if_neg c1]
        refine .inl ⟨rfl, fun i i0 i1 => ?_⟩
        by_cases c2 : i = h
        · subst c2; omega
        · exact h0 i i0 (by omega)
    · rw [if_neg c]
      rcases ih with ⟨h0, _⟩ | ⟨r0, r1, r2, r3⟩
      · exact absurd h0 c
      · exact .inr ⟨r0, by omega, r2, r3⟩
theorem hor9_nonneg (l : Nat) (f : Nat → Fx) : 0 ≤ hor9 l f ∧ hor9 l f ≤ 384 := by
  cases h : may9 l f with
  | false => rw [hor9_no h]; omega
  | true =>
    rw [hor9_yes h]
    obtain ⟨l4, hk, hu⟩ := may9_facts h
    have hc : 0 ≤ sm l (csF f) := sm_nn9 fun i hi => by have := kn_facts (knAll_of hk hi); unfold csF; omega
    have hc1 : sm l (csF f) ≤ sm l (fun _ => 6) := sm_le fun i hi => by have := kn_facts (knAll_of hk hi); unfold csF; omega
    rw [sm_const] at hc1
    omega
theorem first9_is (l : Nat) (f : Nat → Fx) : IsFst (allV9 l f) (hor9 l f) (first9 l f) := by
  have h0 := (hor9_nonneg l f).1
  have := fst9_is (allV9 l f) (hor9 l f).toNat
  rw [show (((hor9 l f).toNat : Nat) : Int) = hor9 l f by omega] at this
  exact this
theorem first9_eq {l : Nat} {f : Nat → Fx} {r : Int} (h : IsFst (allV9 l f) (hor9 l f) r) : first9 l f = r := (first9_is l f).unique h
theorem all9_in {l : Nat} {f : Nat → Fx} {n : Int} (h : l ≤ 1000) : allV9 l f n = allS l f n := by unfold allV9; rw [if_pos h]
theorem tst_iff {l : Nat} {f : Nat → Fx} : tst9 l f = true ↔ may9 l f = true ∧ ∀ n, 0 ≤ n → n ≤ 1099511627776 → allS l f n ≤ n := by
  unfold tst9
  rw [Bool.and_eq_true, decide_eq_true_eq]
  constructor
  · rintro ⟨h1, h2⟩
    refine ⟨h1, fun n n0 n1 => ?_⟩
    have l4 := (may9_facts h1).1
    rcases first9_is l f with ⟨_, h3⟩ | ⟨r0, _⟩
    · by_cases c : hor9 l f ≤ n
      · exact beyond h1 c n1
      · by_cases c1 : 1 ≤ n
        · rw [← all9_in (show l ≤ 1000 by omega)]; exact h3 n c1 (by omega)
        · obtain rfl : n = 0 := by omega
          have : allS l f 0 ≤ sm l (fun _ => 0) := sm_le fun i _ => (of_bd (f i) 0).2.2 (Int.le_refl _)
          rw [sm_zero] at this; exact this
    · omega
  · rintro ⟨h1, h2⟩
    refine ⟨h1, ?_⟩
    have l4 := (may9_facts h1).1
    have hh := (hor9_nonneg l f).2
    rcases first9_is l f with ⟨h3, _⟩ | ⟨r0, r1, r2, _⟩
    · exact h3
    · rw [all9_in (show l ≤ 1000 by omega)] at r2
      have := h2 _ (show 0 ≤ first9 l f by omega) (by omega)
      omega
end Go.Proofs.YteibaiflljcghaaDoor
