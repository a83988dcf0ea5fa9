/- The law: in another order springs are pressed alike. -/
import Derived.Test.YtjiockmphbhljaaDoorX11
import Derived.Laws.AppendOwnNone
namespace Go.Proofs.YtjiockmphbhljaaDoor
open Go.RowKit

/-- The other way round. -/
def rev7 (n : Nat) (g : Nat → Int) (i : Nat) : Int := g (n - 1 - i)
theorem rev7_fit {n : Nat} {u m e : Nat → Int} (h : fitS n u m e) : fitS n (rev7 n u) (rev7 n m) (rev7 n e) := ⟨h.1, fun i hi => h.2 (n - 1 - i) (by omega)⟩
theorem rev7_fit' {n : Nat} {u m e : Nat → Int} (h : fitS n (rev7 n u) (rev7 n m) (rev7 n e)) : fitS n u m e := ⟨h.1, fun i hi => by
  have := h.2 (n - 1 - i) (by omega)
  unfold rev7 at this
  have e : n - 1 - (n - 1 - i) = i := by omega
  rw [e] at this
  exact this⟩
theorem rev7_room (n : Nat) (u m e : Nat → Int) (load : Int) : roomB n (rev7 n u) (rev7 n m) (rev7 n e) load = roomB n u m e load := by
  have e1 : sprB n (rev7 n u) (rev7 n m) (rev7 n e) = sprB n u m e := by
    cases h : sprB n u m e
    · cases h' : sprB n (rev7 n u) (rev7 n m) (rev7 n e)
      · rfl
      · rw [sprB_yes (rev7_fit' (sprB_of h'))] at h; cases h
    · rw [sprB_yes (rev7_fit (sprB_of h))]
  have e2 : sm n (lo7 (rev7 n u) (rev7 n m) (rev7 n e)) = sm n (lo7 u m e) := sm_back n (lo7 u m e)
  unfold roomB
  rw [e1, e2]
theorem rev7_isF {n : Nat} {u m e : Nat → Int} {load a b : Int} (h : IsF n u (lo7 u m e) e load a b) : IsF n (rev7 n u) (lo7 (rev7 n u) (rev7 n m) (rev7 n e)) (rev7 n e) load a b := by
  have e1 : ∀ c d, tot n (rev7 n u) (lo7 (rev7 n u) (rev7 n m) (rev7 n e)) (rev7 n e) c d = tot n u (lo7 u m e) e c d := fun c d => sm_back n (hav u (lo7 u m e) e c d)
  have e2 : sm n (rev7 n u) = sm n u := sm_back n u
  exact ⟨h.a0, h.b1, h.b32, h.abig, h.cop, by rw [e1]; exact h.enough, fun hl => by rw [e1]; exact h.just (by rw [← e2]; exact hl), fun c d hc hd ht => h.least c d hc hd (by rw [← e1]; exact ht)⟩
theorem rev7_frc {n : Nat} {u m e : Nat → Int} {load a b : Int} {rb : Bool} (h : Frc n u m e load a b rb) : Frc n (rev7 n u) (rev7 n m) (rev7 n e) load a b rb :=
  ⟨by rw [rev7_room]; exact h.1, fun hr => rev7_isF (h.2.1 hr), h.2.2⟩

/-- Springs, as cells. -/
def flat7 (n : Nat) (u m e : Nat → Int) : List Value := (List.range n).flatMap fun i => [.int .i64 (u i), .int .i64 (m i), .int .i64 (e i)]
theorem flat7_succ (n : Nat) (u m e : Nat → Int) : flat7 (n + 1) u m e = flat7 n u m e ++ [.int .i64 (u n), .int .i64 (m n), .int .i64 (e n)] := by
  unfold flat7; rw [List.range_succ, List.flatMap_append]; rfl
theorem flat7_len (n : Nat) (u m e : Nat → Int) : (flat7 n u m e).length = n * 3 := by
  induction n with
  | zero => rfl
  | succ n ih => rw [flat7_succ, List.length_append, ih]; simp; omega
theorem flat7_at (n : Nat) (u m e : Nat → Int) (i : Nat) (h : i < n) : (flat7 n u m e)[i * 3]? = some (.int .i64 (u i)) ∧ (flat7 n u m e)[i * 3 + 1]? = some (.int .i64 (m i)) ∧ (flat7 n u m e)[i * 3 + 2]? = some (.int .i64 (e i)) := by
  induction n with
  | zero => omega
  | succ n ih =>
    rw [flat7_succ]
    have hl := flat7_len n u m e
    rcases Nat.lt_succ_iff_lt_or_eq.1 h with h1 | rfl
    · have := ih h1
      rw [List.getElem?_append_left (by omega), List.getElem?_append_left (by omega), List.getElem?_append_left (by omega)]
      exact this
    · rw [List.getElem?_append_right (by omega), List.getElem?_append_right (by omega), List.getElem?_append_right (by omega), hl]
      have e0 : i * 3 - i * 3 = 0 := by omega
      have e1 : i * 3 + 1 - i * 3 = 1 := by omega
      have e2 : i * 3 + 2 - i * 3 = 2 := by omega
      rw [e0, e1, e2]
      exact ⟨rfl, rfl, rfl⟩
theorem Sprs.own {w : World} {base : Nat} {v : Value} {n : Nat} {u m e : Nat → Int} (h : w.ownsRow base 33 3 v n (flat7 n u m e)) : Sprs w v n u m e := by
  have hcs := fun g hg => h.cells (g := g) hg
  obtain ⟨_, ⟨rfl, hz⟩ | ⟨g, cap, cur, rfl, hb, hh, h1, h2, _⟩⟩ := h
  · subst hz
    exact ⟨none, 0, rfl, by simp, by simp, fun _ => rfl, fun h => by omega⟩
  · refine ⟨_, cap, rfl, h1, h2, fun h => by simp at h, fun _ => ⟨g, 0, rfl, fun i hi => ?_⟩⟩
    obtain ⟨f0, f1, f2⟩ := flat7_at n u m e i hi
    have k0 := hcs g rfl _ _ f0
    have k1 := hcs g rfl _ _ f1
    have k2 := hcs g rfl _ _ f2
    rw [Go.WideShapes.add_plain] at k0 k1 k2
    exact ⟨k0, by rw [Nat.add_assoc]; exact k1, by rw [Nat.add_assoc]; exact k2⟩

theorem Tryd.infoSpr : (Tryd.prog.info? 33).map (fun i => (i.zero, i.size, i.bytes)) = some (some (.agg #[.int .i64 0, .int .i64 0, .int .i64 0]), 3, 24) := by kernel_rfl
/-- One spring more, behind those of the call's own. -/
theorem append_spr {w : World} {ops : Array Oper} {rest : List Oper} {o : Oper} {act : Act} {Q : Exit → Act → World → Prop} (hgd : o.guard = none) (s x : Operand)
    (ho : o.op = .call { callee := .builtin .append, args := #[s, x], argTypes := #[22, 22] }) (base : Nat) (v : Value) (k bb : Nat) (p q r : Int) (u m e : Nat → Int)
    (hs : act.eval s = v) (hown : w.ownsRow base 33 3 v k (flat7 k u m e)) (hx : act.eval x = .slice (some ⟨bb, 0, none⟩) 1 1) (hc : Thr w bb p q r) (hp : u k = p ∧ m k = q ∧ e k = r) (hn : (k + 1) * 24 ≤ 140737488355328) (hbase : base ≤ w.heap.size)
    (h : ∀ v' w', w'.ownsRow base 33 3 v' (k + 1) (flat7 (k + 1) u m e) → Below base w w' → wpList Tryd.prog ops Q rest (act.put o.dst v') w') : wpList Tryd.prog ops Q (o :: rest) act w := by
  obtain ⟨i0, hi, hz0, hz1, hz2⟩ := info_parts Tryd.infoSpr
  have hlow := hown.lt
  obtain ⟨rfl, rfl, rfl⟩ := hp
  refine wpList_append_own w hgd s x 22 ho base 33 i0 _ 3 24 Tryd.underlying22 hi hz0 hz1 hz2 rfl (by decide) v k (flat7 k u m e) hs hown ⟨bb, 0, none⟩ 1 1 [.int .i64 (u k), .int .i64 (m k), .int .i64 (e k)] hx rfl (fun j y hy => ?_) (fun y hy => ?_) (by unfold maxLen; omega) hn hbase ?_
  · rw [Go.WideShapes.add_plain]
    match j, hy with
    | 0, hy => simp at hy; subst hy; simpa using hc.1
    | 1, hy => simp at hy; subst hy; simpa using hc.2.1
    | 2, hy => simp at hy; subst hy; simpa using hc.2.2
  · simp at hy
    rcases hy with rfl | rfl | rfl <;> rfl
  · intro v' w' g1 g2 _
    rw [← flat7_succ] at g1
    exact h v' w' g1 ((Below.refl _ _).grown g2 hbase fun k hk => (hlow k hk).1)
end Go.Proofs.YtjiockmphbhljaaDoor
