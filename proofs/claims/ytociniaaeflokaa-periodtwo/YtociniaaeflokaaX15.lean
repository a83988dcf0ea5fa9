/- The law: no others have lesser squares. -/
import Derived.Test.YtociniaaeflokaaX10
import Derived.Maps.AppendAt
namespace Go.Proofs.Ytociniaaeflokaa
open Go.RowKit

theorem lst7_succ (n : Nat) (g : Nat → Int) : lst7 (n + 1) g = lst7 n g ++ [g n] := by unfold lst7; rw [List.range_succ, List.map_append]; rfl
/-- One number more, behind those of the call's own. -/
theorem append_int {w : World} {ops : Array Oper} {rest : List Oper} {o : Oper} {act : Act} {Q : Exit → Act → World → Prop} (hgd : o.guard = none) (s x : Operand)
    (ho : o.op = .call { callee := .builtin .append, args := #[s, x], argTypes := #[28, 28] }) (base : Nat) (v : Value) (k bb : Nat) (y : Int) (g : Nat → Int)
    (hs : act.eval s = v) (hown : w.ownsRow base 3 1 v k (ivs (lst7 k g))) (hx : act.eval x = .slice (some ⟨bb, 0, none⟩) 1 1) (hc : w.cell? ⟨bb, 0, none⟩ = some (.int .i64 y)) (hy : g k = y) (hk : k ≤ 1000) (hbase : base ≤ w.heap.size)
    (h : ∀ v' w', w'.ownsRow base 3 1 v' (k + 1) (ivs (lst7 (k + 1) g)) → w.grownBy w' v.ownBlock → (v'.ownBlock = v.ownBlock ∨ v'.ownBlock = some w.heap.size) → wpList Try.prog ops Q rest (act.put o.dst v') w') : wpList Try.prog ops Q (o :: rest) act w := by
  obtain ⟨i0, hi, hz0, hz1, hz2⟩ := info_parts Try.infoInt
  subst hy
  refine wpList_append_own_at w hgd s x 28 ho base 3 i0 _ 1 8 Try.underlying28 hi hz0 hz1 hz2 rfl (by decide) v k (ivs (lst7 k g)) hs hown ⟨bb, 0, none⟩ 1 1 [.int .i64 (g k)] hx rfl (fun j y hy => ?_) (fun y hy => ?_) (by unfold maxLen; omega) (by omega) hbase ?_
  · match j, hy with
    | 0, hy => simp at hy; subst hy; simpa [Addr.add] using hc
  · simp at hy; subst hy; rfl
  · intro v' w' g1 g2 _ g4
    have e : ivs (lst7 k g) ++ [.int .i64 (g k)] = ivs (lst7 (k + 1) g) := by rw [lst7_succ, ivs_app]; rfl
    rw [e] at g1
    exact h v' w' g1 g2 g4
end Go.Proofs.Ytociniaaeflokaa
