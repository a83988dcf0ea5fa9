/- Walks of All, near and Ends of package period. -/
import Derived.Test.YteibaiflljcghaaDoorB3
namespace Go.Proofs.YteibaiflljcghaaDoor
open Go.RowKit Go.Shelf

/-- A list of the call's own. -/
def OwnL (w : World) (base : Nat) (v : Value) (xs : List Int) : Prop := w.ownsRow base 3 1 v xs.length (ivs xs)
theorem OwnL.nums {w : World} {base : Nat} {v : Value} {xs : List Int} (h : OwnL w base v xs) : Nums w v xs := (Nums.own h).1
theorem OwnL.nil (w : World) (base : Nat) : OwnL w base (.slice none 0 0) [] := World.ownsRow_nil _ _ _ _
theorem OwnL.lower {w : World} {b b' : Nat} {v : Value} {xs : List Int} (h : OwnL w b v xs) (hb : b' ≤ b) : OwnL w b' v xs := by
  obtain ⟨h1, h2⟩ := h
  refine ⟨h1, ?_⟩
  rcases h2 with h2 | ⟨g, cap, cur, h3, h4, h5⟩
  · exact .inl h2
  · exact .inr ⟨g, cap, cur, h3, Nat.le_trans hb h4, h5⟩

/-- The periods that a task may have. -/
def allL (s : Sp) : List Int := bif maySp s then perL s else []
theorem all_no {s : Sp} (h : maySp s = false) : allL s = [] := by unfold allL; rw [h]; rfl
theorem all_yes {s : Sp} (h : maySp s = true) : allL s = perL s := by unfold allL; rw [h]; rfl
set_option maxHeartbeats 1000000 in
set_option maxRecDepth 100000 in
theorem perAll_any (c t x m k e : Int) (w : World) :
    Calls Tryd.prog 39 #[.agg #[.int .i64 c, .int .i64 t, .int .i64 x, .int .i64 m, .int .i64 k, .int .i64 e]] w fun r w' => ∃ v, r = .returned v ∧ OwnL w' w.heap.size v (allL ⟨c, t, x, m, k, e⟩) ∧ Below w.heap.size w w' := by
  have hS : Six (w.alloc (.cells #[.int .i64 c, .int .i64 t, .int .i64 x, .int .i64 m, .int .i64 k, .int .i64 e] 24)) w.heap.size (Sp.at ⟨c, t, x, m, k, e⟩) := Six.new w ⟨c, t, x, m, k, e⟩
  cases h1 : maySp ⟨c, t, x, m, k, e⟩ with
  | false =>
    have H1 : Hid (maySp ⟨c, t, x, m, k, e⟩ = false) := h1
    rw [all_no h1]
    clear h1 hS
    go_enter Tryd.func39, Tryd.ntmps39
    go_wp2_with fail
    refine (spmay_any c t x m k e _).mono ?_
    rintro r w1 ⟨rfl, hb1⟩
    rw [H1.out]
    go_wp2_with fail
    go_ret
    exact ⟨_, rfl, OwnL.nil _ _, ((Below.refl _ _).alloc (by simp) _).trans (hb1.mono (by simp))⟩
  | true =>
    have hN := per_runs h1
    have hN1 : perN ⟨c, t, x, m, k, e⟩ ≤ 100000 := by
      obtain ⟨c0, c1, f2, f3, f4, _⟩ := may_facts h1
      unfold perN; simp only at *; omega
    have HL : Hid (allL ⟨c, t, x, m, k, e⟩ = lst7 (perN ⟨c, t, x, m, k, e⟩) (rn t 1)) := all_yes h1
    have H1 : Hid (maySp ⟨c, t, x, m, k, e⟩ = true) := h1
    clear h1
    go_enter Tryd.func39, Tryd.ntmps39
    go_wp2_with fail
    refine (spmay_any c t x m k e _).mono ?_
    rintro r w1 ⟨rfl, hb1⟩
    have hS1 := hS.later hb1
    replace hb1 : Below w.heap.size w w1 := ((Below.refl _ _).alloc (by simp) _).trans (hb1.mono (by simp))
    obtain ⟨a0, a1, a2, a3, a4, a5, b0, b1, b2, b3, b4, b5⟩ := hS1.sp
    clear hS
    rw [H1.out]
    go_wp2_with fail
    refine (periods_any c t x m k e _).mono ?_
    rintro r w2 ⟨sq, rfl, hs, hb2⟩
    replace hb2 := hb1.trans (hb2.mono hb1.size)
    clear hb1 hS1 a0 a1 a2 a3 a4 a5 b0 b1 b2 b3 b4 b5
    go_wp2_with fail
    refine (perlist_any t 1 x _ hN hN1 sq _ hs).mono ?_
    rintro r w3 ⟨v, rfl, hv, hb3⟩
    replace hb3 := hb2.trans (hb3.mono hb2.size)
    have hv' : OwnL w3 w.heap.size v (allL ⟨c, t, x, m, k, e⟩) := by
      rw [HL.out]
      refine OwnL.lower (b := w2.heap.size) ?_ hb2.size
      unfold OwnL
      rw [lst7_len]; exact hv
    clear hv
    go_wp2_with fail
    go_ret
    exact ⟨v, rfl, hv', hb3⟩

section
variable (c t x m k e p f u : Int)
end
end Go.Proofs.YteibaiflljcghaaDoor
