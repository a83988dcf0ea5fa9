/- Walks of the document's own: Pop, Drop. -/
import Derived.Test.YtjaaabliefcgaaaG2
import Derived.Test.YtjaaabliefcgaaaK1
import Derived.Deep.RegionLaw
import Derived.Deep.RegionHeld3
namespace Go.Proofs.Ytjaaabliefcgaaa
open Go.RowKit
set_option linter.unusedVariables false
/-- One list of items, the call's own, gets another one behind it: a step of a statement whose order is drawn. -/
theorem step_append_its {w : World} {ops : Array Oper} {o : Oper} {act : Act} {K : Act → World → Prop} {Q : Exit → Act → World → Prop} {E : Prop} (hgd : o.guard = none) (s x : Operand) (T : TypeId) (hT : Try.prog.underlying T = some (.slice 50))
    (ho : o.op = .call { callee := .builtin .append, args := #[s, x], argTypes := #[T, T] }) (base : Nat) (v : Value) (ad : Addr) (m cap : Nat) (n : Nat) (xs ys : List (Int × Int))
    (hs : act.eval s = v) (hown : w.ownsRow base 50 2 v n (flat xs)) (hx : act.eval x = .slice (some ad) m cap) (hr : Its w (.slice (some ad) m cap) ys) (hn : n + ys.length ≤ 100000) (hbase : base ≤ w.heap.size)
    (h : ∀ v' w', w'.ownsRow base 50 2 v' (n + ys.length) (flat (xs ++ ys)) → Below base w w' → K (act.put o.dst v') w') :
    if Region.wanted o (yielded ops act.tmps) = true then Oper.wp Try.prog o act w K Q else E := by
  have hw : Region.wanted o (yielded ops act.tmps) = true := by simp [Region.wanted, hgd]
  rw [if_pos hw]
  obtain ⟨i0, hi, hz0, hz1, hz2⟩ := info_parts Try.infoItem
  have hlow := hown.lt
  obtain ⟨a, cap', e, h1, h2, h0, h3⟩ := hr
  simp only [Value.slice.injEq] at e
  obtain ⟨rfl, rfl, rfl⟩ := e
  have m1 : n + ys.length ≤ maxLen := by unfold maxLen; omega
  have hnews : ∀ j u, (flat ys)[j]? = some u → w.cell? (ad.add j) = some u := by
    intro j u hu
    have hy : ys ≠ [] := by intro e; subst e; simp [flat] at hu
    obtain ⟨b, oo, e, h4⟩ := h3 hy
    simp only [Option.some.injEq] at e
    subst e
    exact Its.cells (cap := cap) h4 j u hu
  refine wp_append_own w s x T ho base 50 i0 _ 2 16 hT hi hz0 hz1 hz2 rfl (by decide) v n (flat xs) hs hown ad ys.length cap (flat ys) hx (by rw [flat_len]) hnews (flat_one _) m1 (by omega) hbase ?_
  intro v' w' g1 g2 _
  rw [← flat_app] at g1
  exact h v' w' g1 ((Below.refl _ _).grown g2 hbase fun k hk => (hlow k hk).1)
end Go.Proofs.Ytjaaabliefcgaaa
