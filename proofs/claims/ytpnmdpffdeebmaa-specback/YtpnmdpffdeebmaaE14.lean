/- Bytes that are appended to; what bytes tell. -/
import Derived.Test.YtpnmdpffdeebmaaE13
import Derived.Test.YtpnmdpffdeebmaaE8
import Derived.Laws.AppendOwnNone
namespace Go.Proofs.Ytpnmdpffdeebmaa
open Go.RowKit

/-- Bytes, as cells. -/
def bv8 (xs : List Int) : List Value := xs.map (Value.int .u8)
theorem bv8_len (xs : List Int) : (bv8 xs).length = xs.length := by simp [bv8]
theorem bv8_app (xs ys : List Int) : bv8 (xs ++ ys) = bv8 xs ++ bv8 ys := by simp [bv8]
theorem bv8_one (xs : List Int) : ∀ u ∈ bv8 xs, u.oneCell' = true := by
  intro u hu; obtain ⟨t, _, rfl⟩ := List.mem_map.1 hu; rfl
theorem bv8_at {xs : List Int} {i : Nat} (h : i < xs.length) : (bv8 xs)[i]? = some (.int .u8 (xs.getD i 0)) := by
  unfold bv8; rw [List.getElem?_map, List.getElem?_eq_getElem h]; simp [List.getD, h]

/-- Bytes of the call's own are read. -/
theorem Bys.own {w : World} {base : Nat} {v : Value} {n : Nat} {xs : List Int} (h : w.ownsRow base 5 1 v n (bv8 xs)) (hn : n = xs.length) (hx : ∀ i, i < xs.length → 0 ≤ xs.getD i 0 ∧ xs.getD i 0 ≤ 255) : Bys w v xs := by
  subst hn
  have hcs := fun g hg => h.cells (g := g) hg
  obtain ⟨_, ⟨rfl, hz⟩ | ⟨g, cap, cur, rfl, hb, hh, h1, h2, _⟩⟩ := h
  · obtain rfl : xs = [] := List.eq_nil_of_length_eq_zero hz
    exact Bys.none w
  · refine ⟨_, cap, rfl, h1, h2, (fun h => by cases h), hx, fun _ => ⟨g, 0, rfl, fun i hi => ?_⟩⟩
    have := hcs g rfl i _ (bv8_at hi)
    cases i with
    | zero => simpa [Addr.add] using this
    | succ i => simpa [Addr.add] using this

/-- One list of bytes, the call's own, gets another one behind it. -/
theorem append_bys {w : World} {ops : Array Oper} {rest : List Oper} {o : Oper} {act : Act} {Q : Exit → Act → World → Prop} (hgd : o.guard = Option.none) (s x : Operand)
    (ho : o.op = .call { callee := .builtin .append, args := #[s, x], argTypes := #[24, 24] }) (base : Nat) (v u : Value) (n : Nat) (xs ys : List Int)
    (hs : act.eval s = v) (hown : w.ownsRow base 5 1 v n (bv8 xs)) (hx : act.eval x = u) (hr : Bys w u ys) (hn : n + ys.length ≤ 100000) (hbase : base ≤ w.heap.size)
    (h : ∀ v' w', w'.ownsRow base 5 1 v' (n + ys.length) (bv8 (xs ++ ys)) → Below base w w' → wpList Try.prog ops Q rest (act.put o.dst v') w') : wpList Try.prog ops Q (o :: rest) act w := by
  obtain ⟨i0, hi, hz0, hz1, hz2⟩ := info_parts Try.infoU8
  have hlow := hown.lt
  obtain ⟨a, cap, rfl, h1, h2, hcap, _, h3⟩ := hr
  have m1 : n + ys.length ≤ maxLen := by unfold maxLen; omega
  cases ys with
  | nil =>
    cases a with
    | none =>
      obtain rfl := hcap rfl
      refine wpList_append_own_none hgd s x 24 ho base 5 i0 1 Try.underlying24 hi v n (bv8 xs) hs hown hx ?_
      exact h v w (by simpa using hown) (Below.refl _ _)
    | some ad =>
      refine wpList_append_own w hgd s x 24 ho base 5 i0 (.int .u8 0) 1 1 Try.underlying24 hi hz0 hz1 hz2 rfl (by decide) v n (bv8 xs) hs hown ad 0 cap [] hx rfl (by simp) (by simp) m1 (by simp; omega) hbase ?_
      intro v' w' g1 g2 _
      exact h v' w' (by simpa using g1) ((Below.refl _ _).grown g2 hbase fun k hk => (hlow k hk).1)
  | cons y ys =>
    obtain ⟨b, oo, rfl, h4⟩ := h3 (by simp)
    refine wpList_append_own w hgd s x 24 ho base 5 i0 (.int .u8 0) 1 1 Try.underlying24 hi hz0 hz1 hz2 rfl (by decide) v n (bv8 xs) hs hown ⟨b, oo, Option.none⟩ (y :: ys).length cap (bv8 (y :: ys)) hx (by rw [bv8_len]; omega) ?_ (bv8_one _) m1 (by omega) hbase ?_
    · intro j q hq
      have hj : j < (y :: ys).length := by have := (List.getElem?_eq_some_iff.1 hq).1; rwa [bv8_len] at this
      rw [bv8_at hj] at hq
      rw [← hq, Go.WideShapes.add_plain]
      exact h4 j hj
    · intro v' w' g1 g2 _
      rw [← bv8_app] at g1
      exact h v' w' g1 ((Below.refl _ _).grown g2 hbase fun k hk => (hlow k hk).1)

theorem got_lst (s : Sp) : gotS (lst s) = s := rfl
theorem got_more (s : Sp) (n : Int) : gotS (lst s ++ [n]) = spZ := rfl
theorem lst_got {ks : List Int} (h : maySp (gotS ks) = true) : lst (gotS ks) = ks ∧ ks.length = 6 := by
  unfold gotS at h ⊢
  by_cases hl : ks.length = 6
  · rw [if_pos hl]
    obtain ⟨k0, k1, k2, k3, k4, k5, rfl⟩ := len6 hl
    exact ⟨rfl, rfl⟩
  · rw [if_neg hl, spZ_no] at h; cases h
end Go.Proofs.Ytpnmdpffdeebmaa
