/- Lists of integers of the call's own, that are appended to; what is appended to keeps what it had. -/
import Derived.Test.YtjaaabliefcgaaaU1
import Derived.Laws.AppendOwnNone
namespace Go.Proofs.Ytjaaabliefcgaaa
open Go.RowKit

def ivs (xs : List Int) : List Value := xs.map (Value.int .i64)
theorem ivs_len (xs : List Int) : (ivs xs).length = xs.length := by simp [ivs]
theorem ivs_app (xs ys : List Int) : ivs (xs ++ ys) = ivs xs ++ ivs ys := by simp [ivs]
theorem ivs_one (xs : List Int) : ∀ u ∈ ivs xs, u.oneCell' = true := by
  intro u hu; obtain ⟨t, _, rfl⟩ := List.mem_map.1 hu; rfl
theorem ivs_at {xs : List Int} {i : Nat} (h : i < xs.length) : (ivs xs)[i]? = some (.int .i64 (xs.getD i 0)) := by
  unfold ivs; rw [List.getElem?_map, List.getElem?_eq_getElem h]; simp [List.getD, h]

/-- Is a list without memory without room, too? -/
def NilCap (v : Value) : Prop := ∀ c, v = .slice none 0 c → c = 0

/-- Integers of the call's own are read. -/
theorem Nums.own {w : World} {base : Nat} {v : Value} {n : Nat} {xs : List Int} (h : w.ownsRow base 3 1 v n (ivs xs)) : Nums w v xs ∧ NilCap v ∧ n = xs.length := by
  have hn : n = xs.length := by have := h.1; rw [ivs_len] at this; omega
  subst hn
  have hcs := fun g hg => h.cells (g := g) hg
  obtain ⟨_, ⟨rfl, hz⟩ | ⟨g, cap, cur, rfl, hb, hh, h1, h2, _⟩⟩ := h
  · obtain rfl : xs = [] := List.eq_nil_of_length_eq_zero hz
    exact ⟨⟨none, 0, rfl, by simp, by simp, fun h => absurd rfl h⟩, fun c hc => by simpa using hc.symm, rfl⟩
  · refine ⟨⟨_, cap, rfl, h1, h2, fun _ => ⟨g, 0, rfl, fun i hi => ?_⟩⟩, fun c hc => by simp at hc, rfl⟩
    have := hcs g rfl i _ (ivs_at hi)
    cases i with
    | zero => simpa [Addr.add] using this
    | succ i => simpa [Addr.add] using this

theorem Try.infoInt : (Try.prog.info? 3).map (fun i => (i.zero, i.size, i.bytes)) = some (some (.int .i64 0), 1, 8) := by kernel_rfl

/-- What is appended to keeps what it had. -/
theorem append_keep {P : Program} {w : World} {base : Nat} {t ty e : TypeId} {i : TypeInfo} {z : Value} (ht : P.underlying t = some (.slice e)) (hi : P.info? e = some i) (hz : i.zero = some z)
    {v : Value} {n : Nat} {xs : List Value} (hown : w.ownsRow base e i.size v n xs)
    {a : Addr} {m c : Nat} {news : List Value} (hl : news.length = m * i.size) (hnews : ∀ j u, news[j]? = some u → w.cell? (a.add j) = some u) (h1 : ∀ u ∈ news, u.oneCell' = true)
    (h63 : n + m ≤ maxLen) (hbytes : (n + m) * i.bytes ≤ 140737488355328) {v' : Value} {w' : World} (hr : (Builtin.append_ #[t, t] ty #[v, .slice (some a) m c]).run P w = .ok v' w') : w'.ownsRow base e i.size v n xs := by
  refine ⟨hown.1, ?_⟩
  rcases hown.2 with hn | ⟨g, cap, cur, rfl, hbg, hg, hnc, hcm, hcs, htake⟩
  · exact .inl hn
  · by_cases hroom : n + m ≤ cap
    · have hfit : n * i.size + news.length ≤ cur.size := by rw [hl, hcs, ← Nat.add_mul]; exact Nat.mul_le_mul_right _ hroom
      have hr' := run_append_room (P := P) w t ty e i ht hi g n cap cur hg a m c news hl hnews h1 hroom hfit
      rw [hr'] at hr
      cases hr
      refine .inr ⟨g, cap, _, rfl, hbg, setRow_heap w g cur _ e _ hg, hnc, hcm, ?_, ?_⟩
      · simp only [List.size_toArray, List.length_append, List.length_take, List.length_drop, Array.length_toList]
        omega
      · have h0 : (cur.toList.take (n * i.size)).length = n * i.size := by rw [htake]; exact hown.1
        simp only [List.append_assoc]
        rw [← htake]
        conv => lhs; arg 1; rw [← h0]
        exact List.take_left
    · have holds : ∀ j u, xs[j]? = some u → w.cell? ((⟨g, 0, none⟩ : Addr).add j) = some u := hown.cells (g := g) rfl
      have hr' := run_append_grow (P := P) w t ty e i z ht hi hz ⟨g, 0, none⟩ n cap xs hown.1 holds a m c news hl hnews (by omega) (by simp only [maxLen] at h63; omega) (growslice_fits (by omega) hbytes)
      rw [hr'] at hr
      cases hr
      refine .inr ⟨g, cap, cur, rfl, hbg, ?_, hnc, hcm, hcs, htake⟩
      exact (heap_alloc_old w.drew _ (Array.getElem?_eq_some_iff.1 hg).1).trans hg

/-- One list of integers, the call's own, gets another one behind it. -/
theorem append_nums {w : World} {ops : Array Oper} {rest : List Oper} {o : Oper} {act : Act} {Q : Exit → Act → World → Prop} (hgd : o.guard = Option.none) (s x : Operand)
    (ho : o.op = .call { callee := .builtin .append, args := #[s, x], argTypes := #[25, 25] }) (base : Nat) (v u : Value) (n : Nat) (xs ys : List Int)
    (hs : act.eval s = v) (hown : w.ownsRow base 3 1 v n (ivs xs)) (hx : act.eval x = u) (hr : Nums w u ys) (hcap : NilCap u) (hn : n + ys.length ≤ 100000) (hbase : base ≤ w.heap.size)
    (h : ∀ v' w', w'.ownsRow base 3 1 v' (n + ys.length) (ivs (xs ++ ys)) → w'.ownsRow base 3 1 v n (ivs xs) → Below base w w' → wpList Try.prog ops Q rest (act.put o.dst v') w') : wpList Try.prog ops Q (o :: rest) act w := by
  obtain ⟨i0, hi, hz0, hz1, hz2⟩ := info_parts Try.infoInt
  have hlow := hown.lt
  obtain ⟨a, cap, rfl, h1, h2, h3⟩ := hr
  have m1 : n + ys.length ≤ maxLen := by unfold maxLen; omega
  have main : ∀ (ad : Addr) (news : List Value), a = some ad → news = ivs ys → (∀ j q, news[j]? = some q → w.cell? (ad.add j) = some q) → wpList Try.prog ops Q (o :: rest) act w := by
    intro ad news ha hne hcells
    subst ha hne
    refine wpList_plain hgd fun K hK => ?_
    have hl : (ivs ys).length = ys.length * i0.size := by rw [hz1, ivs_len]; omega
    have hown' : w.ownsRow base 3 i0.size v n (ivs xs) := by rw [hz1]; exact hown
    obtain ⟨v', w', hr, g1, g2, _⟩ := run_append_own (P := Try.prog) w base 25 o.type 3 i0 _ i0.size i0.bytes Try.underlying25 hi hz0 rfl rfl (by rw [hz1]; rfl) (by omega) v n (ivs xs) hown' ad ys.length cap (ivs ys) hl hcells (ivs_one _) m1 (by rw [hz2]; omega) hbase
    have g3 := append_keep (ty := o.type) Try.underlying25 hi hz0 hown' hl hcells (ivs_one _) m1 (by rw [hz2]; omega) hr
    unfold Oper.wp execOp
    simp only [ho, resolve, invoke, builtin, Sem.run_bind, Sem.run_pure, Result.andThen_ok, List.map_toArray, List.map_cons, List.map_nil, hs, hx, hr]
    rw [hz1, ← ivs_app] at g1
    rw [hz1] at g3
    exact hK _ _ (h v' w' g1 g3 ((Below.refl _ _).grown g2 hbase fun k hk => (hlow k hk).1))
  cases ys with
  | nil =>
    cases a with
    | none =>
      obtain rfl := hcap cap rfl
      refine wpList_append_own_none hgd s x 25 ho base 3 i0 1 Try.underlying25 hi v n (ivs xs) hs hown hx ?_
      exact h v w (by simpa using hown) hown (Below.refl _ _)
    | some ad => exact main ad [] rfl rfl (fun j q hq => by simp at hq)
  | cons y ys =>
    obtain ⟨b, oo, rfl, h4⟩ := h3 (by simp)
    refine main ⟨b, oo, Option.none⟩ (ivs (y :: ys)) rfl rfl (fun j q hq => ?_)
    have hj : j < (y :: ys).length := by have := (List.getElem?_eq_some_iff.1 hq).1; rwa [ivs_len] at this
    rw [ivs_at hj] at hq
    rw [← hq, Go.WideShapes.add_plain]
    exact h4 j hj
end Go.Proofs.Ytjaaabliefcgaaa
