/- Walks: a copy of a list, a heap of its items, and what is taken from it one by one. -/
import Derived.Test.YtjaaabliefcgaaaH7
import Derived.Laws.AppendOwnNone
import Derived.Lib.SliceRun
namespace Go.Proofs.Ytjaaabliefcgaaa
open Go.RowKit
set_option linter.unusedVariables false

theorem Its.cells {w : World} {b o cap : Nat} {xs : List (Int × Int)} (h4 : ∀ i, i < xs.length → w.cell? ⟨b, o + i * 2, none⟩ = some (.int .i64 (atI xs i).1) ∧ w.cell? ⟨b, o + i * 2 + 1, none⟩ = some (.int .i64 (atI xs i).2)) :
    ∀ j u, (flat xs)[j]? = some u → w.cell? ((⟨b, o, none⟩ : Addr).add j) = some u := by
  intro j u hu
  obtain ⟨hj, rfl⟩ := flat_of hu
  obtain ⟨k0, k1⟩ := h4 (j / 2) hj
  rw [Go.WideShapes.add_plain]
  split
  · next e => rw [show o + j = o + j / 2 * 2 by omega]; exact k0
  · next e => rw [show o + j = o + j / 2 * 2 + 1 by omega]; exact k1

/-- One list of items, the call's own, gets another one behind it. -/
theorem append_its {w : World} {ops : Array Oper} {rest : List Oper} {o : Oper} {act : Act} {Q : Exit → Act → World → Prop} (hgd : o.guard = none) (s x : Operand) (T : TypeId) (hT : Try.prog.underlying T = some (.slice 50))
    (ho : o.op = .call { callee := .builtin .append, args := #[s, x], argTypes := #[T, T] }) (base : Nat) (v u : Value) (n : Nat) (xs ys : List (Int × Int))
    (hs : act.eval s = v) (hown : w.ownsRow base 50 2 v n (flat xs)) (hx : act.eval x = u) (hr : Its w u ys) (hn : n + ys.length ≤ 100000) (hbase : base ≤ w.heap.size)
    (h : ∀ v' w', w'.ownsRow base 50 2 v' (n + ys.length) (flat (xs ++ ys)) → Below base w w' → wpList Try.prog ops Q rest (act.put o.dst v') w') : wpList Try.prog ops Q (o :: rest) act w := by
  obtain ⟨i0, hi, hz0, hz1, hz2⟩ := info_parts Try.infoItem
  have hlow := hown.lt
  obtain ⟨a, cap, rfl, h1, h2, h0, h3⟩ := hr
  have m1 : n + ys.length ≤ maxLen := by unfold maxLen; omega
  cases ys with
  | nil =>
    cases a with
    | none =>
      obtain rfl := h0 rfl
      refine wpList_append_own_none hgd s x T ho base 50 i0 2 hT hi v n (flat xs) hs hown hx ?_
      exact h v w (by simpa using hown) (Below.refl _ _)
    | some ad =>
      refine wpList_append_own w hgd s x T ho base 50 i0 _ 2 16 hT hi hz0 hz1 hz2 rfl (by decide) v n (flat xs) hs hown ad 0 cap [] hx rfl (by simp) (by simp) m1 (by simp; omega) hbase ?_
      intro v' w' g1 g2 _
      exact h v' w' (by simpa using g1) ((Below.refl _ _).grown g2 hbase fun k hk => (hlow k hk).1)
  | cons y ys =>
    obtain ⟨b, oo, rfl, h4⟩ := h3 (by simp)
    refine wpList_append_own w hgd s x T ho base 50 i0 _ 2 16 hT hi hz0 hz1 hz2 rfl (by decide) v n (flat xs) hs hown ⟨b, oo, none⟩ (y :: ys).length cap (flat (y :: ys)) hx (by rw [flat_len]) (Its.cells (cap := cap) h4) (flat_one _) m1 (by omega) hbase ?_
    intro v' w' g1 g2 _
    rw [← flat_app] at g1
    exact h v' w' g1 ((Below.refl _ _).grown g2 hbase fun k hk => (hlow k hk).1)

/-- A list of the call's own. -/
def OwnE (B : Nat) (xs : List (Int × Int)) (w : World) (e : Ending) (w' : World) : Prop :=
  ∃ v, e = .returned v ∧ w'.ownsRow B 50 2 v xs.length (flat xs) ∧ Below B w w'

set_option maxHeartbeats 1000000 in
set_option maxRecDepth 100000 in
theorem clone_any (xs : List (Int × Int)) (v : Value) (w : World) (h : Its w v xs) (hx : xs.length ≤ 1000) :
    Calls Try.prog 50 #[v] w (OwnE w.heap.size xs w) := by
  have hits := id h
  obtain ⟨a, cap, rfl, h1, h2, h0, h3⟩ := h
  have qT : ∀ (w : World) (a : Option Addr) (n c n' c' : Nat), (binOp .eql 48 (.slice a n c) (.slice none n' c')).run Try.prog w = .ok (.bool a.isNone) w := fun w a n c n' c' => Lib.run_eql_slice_nil w _ _ a n c n' c' Try.underlying48
  cases a with
  | none =>
    have hx0 : xs = [] := by
      cases xs with
      | nil => rfl
      | cons y ys => obtain ⟨b, o, e, _⟩ := h3 (by simp); simp at e
    subst hx0
    clear hits h3
    go_enter Try.func50, Try.ntmps50
    go_wp2
    go_ret
    exact ⟨_, rfl, World.ownsRow_nil _ _ _ _, Below.refl _ _⟩
  | some ad =>
    clear h3 h0
    go_enter Try.func50, Try.ntmps50
    go_wp2_with (first | (at_builtin; refine append_its rfl _ _ 48 Try.underlying48 rfl w.heap.size _ _ 0 [] xs rfl (World.ownsRow_made w #[] 0 (Nat.le_refl _) (by decide) rfl) rfl (hits.later ((Below.refl _ _).alloc (Nat.le_refl _) _)) (by omega) (by simp) ?_; intro v' w' hown hb))
    go_ret
    rw [Nat.zero_add, List.nil_append] at hown
    exact ⟨_, rfl, hown, ((Below.refl _ _).alloc (Nat.le_refl _) _).trans hb⟩
end Go.Proofs.Ytjaaabliefcgaaa
