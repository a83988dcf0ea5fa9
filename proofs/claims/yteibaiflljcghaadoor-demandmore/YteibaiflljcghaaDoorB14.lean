/- What the statement PeriodTwo comes to. -/
import Derived.Test.YteibaiflljcghaaDoorB10
namespace Go.Proofs.YteibaiflljcghaaDoor
open Go.RowKit Go.Shelf

/-- One list of integers, the call's own, gets another one behind it: a step of a statement whose order is drawn. -/
theorem step_append_nums {w : World} {ops : Array Oper} {o : Oper} {act : Act} {K : Act → World → Prop} {Q : Exit → Act → World → Prop} {E : Prop} (hgd : o.guard = Option.none) (s x : Operand)
    (ho : o.op = .call { callee := .builtin .append, args := #[s, x], argTypes := #[41, 41] }) (base : Nat) (v u : Value) (n : Nat) (xs ys : List Int)
    (hs : act.eval s = v) (hown : w.ownsRow base 3 1 v n (ivs xs)) (hx : act.eval x = u) (hr : Nums w u ys) (hcap : NilCap u) (hn : n + ys.length ≤ 100000) (hbase : base ≤ w.heap.size)
    (h : ∀ v' w', w'.ownsRow base 3 1 v' (n + ys.length) (ivs (xs ++ ys)) → Below base w w' → K (act.put o.dst v') w') :
    if Region.wanted o (yielded ops act.tmps) = true then Oper.wp Tryd.prog o act w K Q else E := by
  have hw : Region.wanted o (yielded ops act.tmps) = true := by simp [Region.wanted, hgd]
  rw [if_pos hw]
  obtain ⟨i0, hi, hz0, hz1, hz2⟩ := info_parts Tryd.infoInt
  have hlow := hown.lt
  obtain ⟨a, cap, rfl, h1, h2, h3⟩ := hr
  have m1 : n + ys.length ≤ maxLen := by unfold maxLen; omega
  have main : ∀ (ad : Addr), a = some ad → (∀ j q, (ivs ys)[j]? = some q → w.cell? (ad.add j) = some q) → Oper.wp Tryd.prog o act w K Q := by
    intro ad ha hcells
    subst ha
    refine wp_append_own w s x 41 ho base 3 i0 _ 1 8 Tryd.underlying41 hi hz0 hz1 hz2 rfl (by decide) v n (ivs xs) hs hown ad ys.length cap (ivs ys) hx (by rw [ivs_len]; omega) hcells (ivs_one _) m1 (by omega) hbase ?_
    intro v' w' g1 g2 _
    rw [← ivs_app] at g1
    exact h v' w' g1 ((Below.refl _ _).grown g2 hbase fun k hk => (hlow k hk).1)
  cases ys with
  | nil =>
    cases a with
    | none =>
      obtain rfl := hcap cap rfl
      have hr := run_append_owned_none (P := Tryd.prog) (w := w) base 41 o.type 3 i0 1 Tryd.underlying41 hi v n (ivs xs) hown
      unfold Oper.wp execOp
      have hx' : act.eval x = .slice none 0 0 := hx
      simp only [ho, resolve, invoke, builtin, Sem.run_bind, Sem.run_pure, Result.andThen_ok, List.map_toArray, List.map_cons, List.map_nil, hs, hx', hr]
      exact h v w (by simpa using hown) (Below.refl _ _)
    | some ad => exact main ad rfl (fun j q hq => by simp [ivs] at hq)
  | cons y ys =>
    obtain ⟨b, oo, rfl, h4⟩ := h3 (by simp)
    refine main ⟨b, oo, Option.none⟩ rfl (fun j q hq => ?_)
    have hj : j < (y :: ys).length := by have := (List.getElem?_eq_some_iff.1 hq).1; rwa [ivs_len] at this
    rw [ivs_at hj] at hq
    rw [← hq, Go.WideShapes.add_plain]
    exact h4 j hj
section
variable (c t x m k e p f d u : Int)
end
end Go.Proofs.YteibaiflljcghaaDoor
