/- Items as they lie; walks of the methods that a heap has. -/
import Derived.Test.YtjaaabliefcgaaaH1
import Derived.BigRegion
namespace Go.Proofs.Ytjaaabliefcgaaa
open Go.RowKit

theorem cell_later {w w' : World} {p : Addr} {v : Value} (hb : Below w.heap.size w w') (hc : w.cell? p = some v) : w'.cell? p = some v :=
  (hb.cell (World.block_lt_of_cell? _ _ hc)).trans hc

/-- A list of items that is read. -/
def Its (w : World) (v : Value) (xs : List (Int × Int)) : Prop :=
  ∃ a cap, v = .slice a xs.length cap ∧ xs.length ≤ cap ∧ cap ≤ maxLen ∧ (a = none → cap = 0) ∧ (xs ≠ [] → ∃ b o, a = some ⟨b, o, none⟩ ∧ ∀ i, i < xs.length → w.cell? ⟨b, o + i * 2, none⟩ = some (.int .i64 (atI xs i).1) ∧ w.cell? ⟨b, o + i * 2 + 1, none⟩ = some (.int .i64 (atI xs i).2))
theorem Its.later {w w' : World} {v : Value} {xs : List (Int × Int)} (h : Its w v xs) (hb : Below w.heap.size w w') : Its w' v xs := by
  obtain ⟨a, cap, rfl, h1, h2, h0, h3⟩ := h
  refine ⟨a, cap, rfl, h1, h2, h0, fun hx => ?_⟩
  obtain ⟨b, o, rfl, h4⟩ := h3 hx
  exact ⟨b, o, rfl, fun i hi => ⟨cell_later hb (h4 i hi).1, cell_later hb (h4 i hi).2⟩⟩

set_option maxHeartbeats 1000000 in
set_option maxRecDepth 100000 in
theorem less_any (xs : List (Int × Int)) (v : Value) (i j : Nat) (w : World) (h : Its w v xs) (hi : i < xs.length) (hj : j < xs.length) (hx : xs.length ≤ 1000) :
    Calls Try.prog 70 #[v, .int .i64 i, .int .i64 j] w fun e w' => e = .returned (.bool (ahd (atI xs i) (atI xs j))) ∧ Below w.heap.size w w' := by
  obtain ⟨a, cap, rfl, h1, h2, h0, h3⟩ := h
  obtain ⟨b, o, rfl, h4⟩ := h3 (by intro e; subst e; simp at hi)
  obtain ⟨ci0, ci1⟩ := h4 i hi
  obtain ⟨cj0, cj1⟩ := h4 j hj
  clear h3 h4 h0
  have HE : Hid (ahd (atI xs i) (atI xs j) = if (atI xs i).1 = (atI xs j).1 then decide ((atI xs i).2 < (atI xs j).2) else decide ((atI xs i).1 < (atI xs j).1)) := ahd_eq _ _
  generalize hbv : ahd (atI xs i) (atI xs j) = bv at *
  generalize hxi : atI xs i = xi at *
  generalize hxj : atI xs j = xj at *
  obtain ⟨xi0, xi1⟩ := xi
  obtain ⟨xj0, xj1⟩ := xj
  simp only at ci0 ci1 cj0 cj1
  clear hbv hxi hxj
  by_cases c : xi0 = xj0
  · have HB : Hid (bv = decide (xi1 < xj1)) := by show _ = _; rw [HE.out, if_pos c]
    clear HE
    subst c
    go_enter Try.func70, Try.ntmps70
    go_wp2_with fail
    go_region
    all_goals
      go_wp2_with fail
      go_region
    all_goals
      go_wp2_with fail
      go_ret
      exact ⟨ret_b HB.out.symm, (Below.refl _ _).drew.drew⟩
  · have HB : Hid (bv = decide (xi0 < xj0)) := by show _ = _; rw [HE.out, if_neg c]
    clear HE
    go_enter Try.func70, Try.ntmps70
    go_wp2_with fail
    go_region
    all_goals
      go_wp2_with fail
      go_region
    all_goals
      go_wp2_with fail
      go_ret
      exact ⟨ret_b HB.out.symm, (Below.refl _ _).drew.drew⟩

/-- Items, as cells. -/
def flat (xs : List (Int × Int)) : List Value := xs.flatMap fun x => [.int .i64 x.1, .int .i64 x.2]
theorem flat_len (xs : List (Int × Int)) : (flat xs).length = xs.length * 2 := by
  induction xs with
  | nil => rfl
  | cons x xs ih => simp [flat] at ih ⊢; omega
theorem flat_app (xs ys : List (Int × Int)) : flat (xs ++ ys) = flat xs ++ flat ys := by simp [flat]
theorem flat_cons (x : Int × Int) (xs : List (Int × Int)) : flat (x :: xs) = .int .i64 x.1 :: .int .i64 x.2 :: flat xs := by simp [flat]
theorem flat_at (xs : List (Int × Int)) : ∀ i, i < xs.length → (flat xs)[i * 2]? = some (.int .i64 (atI xs i).1) ∧ (flat xs)[i * 2 + 1]? = some (.int .i64 (atI xs i).2) := by
  induction xs with
  | nil => intro i h; simp at h
  | cons x xs ih =>
    intro i h
    rw [flat_cons]
    cases i with
    | zero => simp [atI]
    | succ i =>
      have := ih i (by simpa using h)
      rw [show (i + 1) * 2 = i * 2 + 1 + 1 by omega]
      simpa [atI, List.getD] using this
theorem flat_set (xs : List (Int × Int)) (x : Int × Int) : ∀ i, flat (xs.set i x) = ((flat xs).set (i * 2) (.int .i64 x.1)).set (i * 2 + 1) (.int .i64 x.2) := by
  induction xs with
  | nil => intro i; simp [flat]
  | cons y xs ih =>
    intro i
    cases i with
    | zero => simp [flat]
    | succ i =>
      rw [show (i + 1) * 2 = i * 2 + 1 + 1 by omega, List.set_cons_succ, flat_cons, flat_cons, ih]
      simp
theorem flat_take (xs : List (Int × Int)) : ∀ n, flat (xs.take n) = (flat xs).take (n * 2) := by
  induction xs with
  | nil => intro n; simp [flat]
  | cons y xs ih =>
    intro n
    cases n with
    | zero => simp [flat]
    | succ n => rw [show (n + 1) * 2 = n * 2 + 1 + 1 by omega, List.take_succ_cons, flat_cons, flat_cons, ih]; simp
theorem flat_one (xs : List (Int × Int)) : ∀ u ∈ flat xs, u.oneCell' = true := by
  intro u hu
  obtain ⟨x, _, hx⟩ := List.mem_flatMap.1 hu
  simp at hx
  rcases hx with rfl | rfl <;> rfl
theorem flat_of {xs : List (Int × Int)} {j : Nat} {u : Value} (h : (flat xs)[j]? = some u) : j / 2 < xs.length ∧ u = .int .i64 (if j % 2 = 0 then (atI xs (j / 2)).1 else (atI xs (j / 2)).2) := by
  have hl : j < (flat xs).length := (List.getElem?_eq_some_iff.1 h).1
  rw [flat_len] at hl
  have hj : j / 2 < xs.length := by omega
  refine ⟨hj, ?_⟩
  obtain ⟨h0, h1⟩ := flat_at xs (j / 2) hj
  split
  · next e => rw [show j / 2 * 2 = j by omega, h] at h0; exact Option.some.inj h0
  · next e => rw [show j / 2 * 2 + 1 = j by omega, h] at h1; exact Option.some.inj h1

theorem Its.own {w : World} {base : Nat} {v : Value} {n : Nat} {xs : List (Int × Int)} (h : w.ownsRow base 50 2 v n (flat xs)) : Its w v xs ∧ n = xs.length := by
  have hn : n = xs.length := by have := h.1; rw [flat_len] at this; omega
  refine ⟨?_, hn⟩
  subst hn
  have hcs := fun g hg => h.cells (g := g) hg
  obtain ⟨_, ⟨rfl, hz⟩ | ⟨g, cap, cur, rfl, hb, hh, h1, h2, _⟩⟩ := h
  · obtain rfl : xs = [] := List.eq_nil_of_length_eq_zero hz
    exact ⟨none, 0, rfl, by simp, by simp, fun _ => rfl, fun h => absurd rfl h⟩
  · refine ⟨_, cap, rfl, h1, h2, fun h => by simp at h, fun _ => ⟨g, 0, rfl, fun i hi => ?_⟩⟩
    obtain ⟨f0, f1⟩ := flat_at xs i hi
    have k0 := hcs g rfl _ _ f0
    have k1 := hcs g rfl _ _ f1
    rw [Go.WideShapes.add_plain] at k0 k1
    exact ⟨k0, by rwa [Nat.add_assoc]⟩

/-- What stands in the heap's variable p, and its items. -/
structure Hp (B : Nat) (w : World) (p : Nat) (a : Option Addr) (cap : Nat) (xs : List (Int × Int)) : Prop where
  le : B ≤ p
  var : w.heap[p]? = some (.cells #[.slice a xs.length cap] 69 (0, 0))
  own : w.ownsRow B 50 2 (.slice a xs.length cap) xs.length (flat xs)
theorem Hp.its {B p cap : Nat} {w : World} {a : Option Addr} {xs : List (Int × Int)} (h : Hp B w p a cap xs) : Its w (.slice a xs.length cap) xs := (Its.own h.own).1
theorem Hp.cell {B p cap : Nat} {w : World} {a : Option Addr} {xs : List (Int × Int)} (h : Hp B w p a cap xs) : w.cell? ⟨p, 0, none⟩ = some (.slice a xs.length cap) := by
  rw [cell_of_row w p 0 _ 69 (0, 0) h.var]; rfl
theorem Hp.frozen {B p cap : Nat} {w : World} {a : Option Addr} {xs : List (Int × Int)} (h : Hp B w p a cap xs) : w.frozen? ⟨p, 0, none⟩ = false := by
  simp [World.frozen?, h.var]
/-- All but the heap's variable and its items is as it was. -/
structure Kept (p : Nat) (a : Option Addr) (w w' : World) : Prop where
  os : w'.os = w.os
  tape : w'.tape = w.tape
  output : w'.output = w.output
  size : w.heap.size ≤ w'.heap.size
  block : ∀ k, k < w.heap.size → k ≠ p → some k ≠ a.map (·.block) → w'.heap[k]? = w.heap[k]?
theorem Kept.of {w w' : World} {p : Nat} {a : Option Addr} (h : Below w.heap.size w w') : Kept p a w w' := ⟨h.os, h.tape, h.output, h.size, fun k hk _ _ => h.block k hk⟩
theorem Kept.refl (p : Nat) (a : Option Addr) (w : World) : Kept p a w w := ⟨rfl, rfl, rfl, Nat.le_refl _, fun _ _ _ _ => rfl⟩
theorem Kept.trans {p : Nat} {a : Option Addr} {w w1 w2 : World} (h : Kept p a w w1) (k : Kept p a w1 w2) : Kept p a w w2 :=
  ⟨k.os.trans h.os, k.tape.trans h.tape, k.output.trans h.output, Nat.le_trans h.size k.size, fun i hi h1 h2 => (k.block i (Nat.lt_of_lt_of_le hi h.size) h1 h2).trans (h.block i hi h1 h2)⟩
theorem Kept.below {B p cap : Nat} {w w0 w' : World} {a : Option Addr} {xs : List (Int × Int)} (h : Kept p a w w') (hp : Hp B w0 p a cap xs) (hB : B ≤ w.heap.size) : Below B w w' := by
  refine ⟨h.os, h.tape, h.output, h.size, fun k hk => h.block k (by omega) (by have := hp.le; omega) (fun e => ?_)⟩
  have h1 := hp.own.lt
  cases a with
  | none => simp at e
  | some ad =>
    simp at e
    have := (h1 k (by rw [e]; rfl)).1
    omega
theorem Hp.later {B p cap : Nat} {w w' : World} {a : Option Addr} {xs : List (Int × Int)} (h : Hp B w p a cap xs) (hb : Below w.heap.size w w') : Hp B w' p a cap xs := by
  refine ⟨h.le, (hb.block p (Array.getElem?_eq_some_iff.1 h.var).1).trans h.var, ?_⟩
  exact h.own.kept (row := none) ⟨hb.os, hb.tape, hb.output, hb.size, fun k hk _ => hb.block k hk⟩ (by cases h : Value.ownBlock (.slice a xs.length cap) <;> simp)

set_option maxRecDepth 100000 in
theorem method_len0 (a : Addr) (w : World) : (method 195 62 (.pointer (some a)) "Len").run Try.prog w = (loadVar 69 a >>= fun v => pure (47, v)).run Try.prog w := by kernel_rfl
theorem method_len {p n c : Nat} {a : Option Addr} {w : World} (hc : w.cell? ⟨p, 0, none⟩ = some (.slice a n c)) : (method 195 62 (.pointer (some ⟨p, 0, none⟩)) "Len").run Try.prog w = .ok (47, .slice a n c) w := by
  rw [method_len0]; simp [go_sem, loadVar, hc]
set_option maxRecDepth 100000 in
theorem method_less0 (a : Addr) (w : World) : (method 195 62 (.pointer (some a)) "Less").run Try.prog w = (loadVar 69 a >>= fun v => pure (70, v)).run Try.prog w := by kernel_rfl
theorem method_less {p n c : Nat} {a : Option Addr} {w : World} (hc : w.cell? ⟨p, 0, none⟩ = some (.slice a n c)) : (method 195 62 (.pointer (some ⟨p, 0, none⟩)) "Less").run Try.prog w = .ok (70, .slice a n c) w := by
  rw [method_less0]; simp [go_sem, loadVar, hc]
set_option maxRecDepth 100000 in
theorem method_swap0 (a : Addr) (w : World) : (method 195 62 (.pointer (some a)) "Swap").run Try.prog w = (loadVar 69 a >>= fun v => pure (72, v)).run Try.prog w := by kernel_rfl
theorem method_swap {p n c : Nat} {a : Option Addr} {w : World} (hc : w.cell? ⟨p, 0, none⟩ = some (.slice a n c)) : (method 195 62 (.pointer (some ⟨p, 0, none⟩)) "Swap").run Try.prog w = .ok (72, .slice a n c) w := by
  rw [method_swap0]; simp [go_sem, loadVar, hc]
set_option maxRecDepth 100000 in
theorem method_pop (a : Addr) (w : World) : (method 195 62 (.pointer (some a)) "Pop").run Try.prog w = .ok (71, .pointer (some a)) w := by kernel_rfl
set_option maxRecDepth 100000 in
theorem method_push (a : Addr) (w : World) : (method 195 62 (.pointer (some a)) "Push").run Try.prog w = .ok (74, .pointer (some a)) w := by kernel_rfl
end Go.Proofs.Ytjaaabliefcgaaa
