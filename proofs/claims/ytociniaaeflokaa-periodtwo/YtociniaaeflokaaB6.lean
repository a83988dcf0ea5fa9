/- The document's own answers of chapter 8: walks of Of, All and Ends; the chapter's example. -/
import Derived.Test.YtociniaaeflokaaB5
import Derived.Test.YtociniaaeflokaaE9
import Derived.Test.YtociniaaeflokaaX8
namespace Go.Proofs.Ytociniaaeflokaa
open Go.RowKit Go.Shelf

/-- One number more, behind those of the call's own. -/
theorem append_int8 {w : World} {ops : Array Oper} {rest : List Oper} {o : Oper} {act : Act} {Q : Exit → Act → World → Prop} (hgd : o.guard = none) (s x : Operand)
    (ho : o.op = .call { callee := .builtin .append, args := #[s, x], argTypes := #[28, 28] }) (base : Nat) (v : Value) (k bb : Nat) (y : Int) (g : Nat → Int)
    (hs : act.eval s = v) (hown : w.ownsRow base 3 1 v k (ivs (lst7 k g))) (hx : act.eval x = .slice (some ⟨bb, 0, none⟩) 1 1) (hc : w.cell? ⟨bb, 0, none⟩ = some (.int .i64 y)) (hy : g k = y) (hk : k ≤ 100000) (hbase : base ≤ w.heap.size)
    (h : ∀ v' w', w'.ownsRow base 3 1 v' (k + 1) (ivs (lst7 (k + 1) g)) → Below base w w' → wpList Try.prog ops Q rest (act.put o.dst v') w') : wpList Try.prog ops Q (o :: rest) act w := by
  obtain ⟨i0, hi, hz0, hz1, hz2⟩ := info_parts Try.infoInt
  subst hy
  refine wpList_append_own_at w hgd s x 28 ho base 3 i0 _ 1 8 Try.underlying28 hi hz0 hz1 hz2 rfl (by decide) v k (ivs (lst7 k g)) hs hown ⟨bb, 0, none⟩ 1 1 [.int .i64 (g k)] hx rfl (fun j y hy => ?_) (fun y hy => ?_) (by unfold maxLen; omega) (by omega) hbase ?_
  · match j, hy with
    | 0, hy => simp at hy; subst hy; simpa [Addr.add] using hc
  · simp at hy; subst hy; rfl
  · intro v' w' g1 g2 _ _
    have e : ivs (lst7 k g) ++ [.int .i64 (g k)] = ivs (lst7 (k + 1) g) := by rw [lst7_succ, ivs_app]; rfl
    rw [e] at g1
    exact h v' w' g1 ((Below.refl base w).grown g2 hbase (fun j ej => (hown.lt j ej).1))

theorem at_le {s : Sp} {p u : Int} (h : maySp s = true) (h' : wiB p s.t s.x = true) : atV s p ≤ u ↔ s.c * s.m * 1048576 ≤ u * s.k * p := by
  obtain ⟨c0, c1, f2, f3, f4, ⟨m0, m1, k1⟩, _⟩ := may_facts h
  obtain ⟨p0, p1⟩ := of_decide_eq_true h'
  have e : atV s p = cl (s.c * s.m * 1048576) (s.k * p) := by unfold atV atB; rw [h, h']; rfl
  have hkp : 1 ≤ s.k * p := by
    have h1 : 1 * 1 ≤ s.k * p := Int.mul_le_mul (by omega) (by omega) (by omega) (by omega)
    omega
  rw [e, Int.mul_assoc u]
  refine ⟨fun hle => ?_, fun hle => cl_le_of hkp hle⟩
  have h1 := cl_ge (a := s.c * s.m * 1048576) hkp
  have h2 : cl (s.c * s.m * 1048576) (s.k * p) * (s.k * p) ≤ u * (s.k * p) := Int.mul_le_mul_of_nonneg_right hle (by omega)
  omega

theorem none_step {s : Sp} {u : Int} {l : List Int} {y : Int} (h : NoneYet s u l) (hy : ¬ atV s y ≤ u) : NoneYet s u (l ++ [y]) := fun z hz => (List.mem_append.1 hz).elim (h z) (fun e => by simp at e; subst e; exact hy)
theorem per_len {s : Sp} (h : maySp s = true) : ((perN s : Nat) : Int) = s.x - s.t + 1 := by
  obtain ⟨c0, c1, f2, f3, f4, _⟩ := may_facts h
  unfold perN; omega
theorem of_found {s : Sp} {u : Int} {j : Nat} (h : maySp s = true) (h' : wiB u 1 1048576 = true) (hj : j < perN s) (hn : NoneYet s u (lst7 j (rn s.t 1))) (hy : atV s (rn s.t 1 j) ≤ u) : ofO s u = some (rn s.t 1 j) := by
  rw [of_yes h h']
  obtain ⟨r, hr⟩ := lst7_split (show j + 1 ≤ perN s by omega) (rn s.t 1)
  unfold perL
  rw [hr]
  exact find_last ⟨_, lst7_succ _ _, hn, hy⟩

set_option maxHeartbeats 1000000 in
set_option maxRecDepth 100000 in
theorem refPerOf_in (c t x m k e u : Int) (w : World) (h1 : maySp ⟨c, t, x, m, k, e⟩ = true) (u0 : 1 ≤ u) (u1 : u ≤ 1048576) :
    Calls Try.prog 10 #[.agg #[.int .i64 c, .int .i64 t, .int .i64 x, .int .i64 m, .int .i64 k, .int .i64 e], .int .i64 u] w fun r w' => r = .returned (.tuple #[.int .i64 (ofP ⟨c, t, x, m, k, e⟩ u), .bool (ofB ⟨c, t, x, m, k, e⟩ u)]) ∧ Below w.heap.size w w' := by
  have hS : Six (w.alloc (.cells #[.int .i64 c, .int .i64 t, .int .i64 x, .int .i64 m, .int .i64 k, .int .i64 e] 23)) w.heap.size (Sp.at ⟨c, t, x, m, k, e⟩) := Six.new w ⟨c, t, x, m, k, e⟩
  have h2 : wiB u 1 1048576 = true := decide_eq_true ⟨u0, u1⟩
  have HF : Hid (∀ j, j < perN ⟨c, t, x, m, k, e⟩ → NoneYet ⟨c, t, x, m, k, e⟩ u (lst7 j (rn t 1)) → atV ⟨c, t, x, m, k, e⟩ (rn t 1 j) ≤ u → ofO ⟨c, t, x, m, k, e⟩ u = some (rn t 1 j)) := fun j hj hn hy => of_found h1 h2 hj hn hy
  have HN : Hid (NoneYet ⟨c, t, x, m, k, e⟩ u (lst7 (perN ⟨c, t, x, m, k, e⟩) (rn t 1)) → ofO ⟨c, t, x, m, k, e⟩ u = none) := fun hn => by rw [of_yes h1 h2]; exact find_none hn
  have HA : Hid (∀ p, t ≤ p → p ≤ x → (atV ⟨c, t, x, m, k, e⟩ p ≤ u ↔ c * m * 1048576 ≤ u * k * p)) := fun p q0 q1 => at_le h1 (decide_eq_true ⟨q0, q1⟩)
  have hN := per_len h1
  obtain ⟨N, hNN⟩ : ∃ N, perN ⟨c, t, x, m, k, e⟩ = N := ⟨_, rfl⟩
  rw [hNN] at HF HN hN
  clear hNN
  obtain ⟨c0, c1, f2, f3, f4, ⟨m0, m1, k1⟩, _⟩ := may_facts h1
  simp only at hN c0 c1 f2 f3 f4 m0 m1 k1
  have hcm : 1 ≤ c * m ∧ c * m ≤ 36 := by rcases six c0 c1 with rfl | rfl | rfl | rfl | rfl | rfl <;> omega
  have huk : 1 ≤ u * k ∧ u * k ≤ 6291456 := by rcases six (show 1 ≤ k by omega) k1 with rfl | rfl | rfl | rfl | rfl | rfl <;> omega
  have H1 : Hid (maySp ⟨c, t, x, m, k, e⟩ = true) := h1
  clear h1 h2
  go_enter Try.func10, Try.ntmps10
  go_wp2_with fail
  refine (refSp_any c t x m k e _).mono ?_
  rintro r w1 ⟨rfl, hb1⟩
  have hS1 := hS.later hb1
  replace hb1 : Below w.heap.size w w1 := ((Below.refl _ _).alloc (by simp) _).trans (hb1.mono (by simp))
  obtain ⟨a0, a1, a2, a3, a4, a5, b0, b1, b2, b3, b4, b5⟩ := hS1.sp
  clear hS
  rw [H1.out]
  go_wp2_with fail
  go_loop [7] (fun v => ∃ j : Nat, j ≤ N ∧ v = .int .i64 (t + j) ∧ Hid (NoneYet ⟨c, t, x, m, k, e⟩ u (lst7 j (rn t 1)))) (fun v => (x + 1 - intOf v).toNat)
  case atStart => exact ⟨0, Nat.zero_le _, by simp, (fun z hz => by simp [lst7] at hz)⟩
  case round =>
    obtain ⟨j, hj, rfl, HG⟩ := hrel
    have er : rn t 1 j = t + j := by unfold rn; omega
    have HR : Hid (rn t 1 j = t + j) := er
    clear er
    by_cases hlt : j < N
    · obtain ⟨p, hp⟩ : ∃ p, t + (j : Int) = p := ⟨_, rfl⟩
      have HP : Hid (t + (j : Int) = p) := hp
      have p0 : t ≤ p := by omega
      have p1 : p ≤ x := by omega
      rw [hp] at HR ⊢
      clear hp
      have hq := HA.out p p0 p1
      have hukp : 1 ≤ u * k * p ∧ u * k * p ≤ 301989888 := by
        have g1 : 1 * 1 ≤ u * k * p := Int.mul_le_mul huk.1 (by omega) (by omega) (by omega)
        have g2 : u * k * p ≤ 6291456 * 48 := Int.mul_le_mul huk.2 (by omega) (by omega) (by omega)
        omega
      have e1 : IntKind.i64.wrap (c * m) = c * m := by rw [IntKind.wrap_i64]; omega
      have e2 : IntKind.i64.wrap (c * m * 1048576) = c * m * 1048576 := by rw [IntKind.wrap_i64]; omega
      have e3 : IntKind.i64.wrap (u * k) = u * k := by rw [IntKind.wrap_i64]; omega
      have e4 : IntKind.i64.wrap (u * k * p) = u * k * p := by rw [IntKind.wrap_i64]; omega
      have HQ : Hid (atV ⟨c, t, x, m, k, e⟩ p ≤ u ↔ c * m * 1048576 ≤ u * k * p) := hq
      clear hq
      by_cases hle : c * m * 1048576 ≤ u * k * p
      · have HO : Hid (ofO ⟨c, t, x, m, k, e⟩ u = some p) := by
          have := HF.out j hlt HG.out (by rw [HR.out]; exact HQ.out.2 hle)
          rw [HR.out] at this; exact this
        go_wp2_with fail
        go_ret2
        exact ⟨by unfold ofP ofB; rw [HO.out]; rfl, hb1⟩
      · have HG' : Hid (NoneYet ⟨c, t, x, m, k, e⟩ u (lst7 (j + 1) (rn t 1))) := by
          show NoneYet _ _ _
          rw [lst7_succ, HR.out]; exact none_step HG.out (fun h => hle (HQ.out.1 h))
        go_wp2_with fail
        go_round
        case rel => exact ⟨j + 1, by omega, by have := HP.out; simp; omega, HG'⟩
        case measure => simp [intOf]; omega
    · obtain rfl : j = N := by omega
      have HO : Hid (ofO ⟨c, t, x, m, k, e⟩ u = none) := HN.out HG.out
      have g1 : ¬ (t + (j : Int)) ≤ x := by omega
      go_wp2_with fail
      go_ret2
      exact ⟨by unfold ofP ofB; rw [HO.out]; rfl, hb1⟩
end Go.Proofs.Ytociniaaeflokaa
