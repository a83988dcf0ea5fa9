/- Walks of package job: Worst, Left. -/
import Derived.Test.YtcdkocdjbpebpaaJ3
import Derived.Test.YtcdkocdjbpebpaaV2
import Derived.Deep.RegionHeld3
import Derived.Shelf.Abstract
namespace Go.Proofs.Ytcdkocdjbpebpaa
open Go.RowKit Go.Shelf

theorem worst_any (o : Bool) (n r u : Int) (b : Bool) (c d x : Int) (w : World) (h : IntKind.i64.wrap (c - x) = c - x) :
    Calls Try.prog 34 #[.agg #[.bool o, .int .i64 n, .int .i64 r, .int .i64 u, .bool b, .int .i64 c, .int .i64 d, .int .i64 x]] w fun e w' => e = .returned (.int .i64 (wstV ⟨o, n, r, u, b, c, d, x⟩)) ∧ Below w.heap.size w w' := by
  cases o
  · have H : Hid (wstV ⟨false, n, r, u, b, c, d, x⟩ = 0) := by show _ = _; unfold wstV; rw [if_neg (by simp)]
    clear h
    go_enter Try.func34, Try.ntmps34
    go_wp2
    go_ret
    exact ⟨ret_i H.out.symm, (Below.refl _ _).alloc (by simp) _⟩
  · have H : Hid (wstV ⟨true, n, r, u, b, c, d, x⟩ = rstV c x) := by show _ = _; unfold wstV rstV; simp
    have HW : Hid (IntKind.i64.wrap (c - x) = c - x) := h
    clear h
    go_enter Try.func34, Try.ntmps34
    go_wp2_with fail
    refine (rest_any c x _ HW.out).mono ?_
    rintro e w1 ⟨rfl, rfl⟩
    go_wp2
    go_ret
    exact ⟨ret_i H.out.symm, (Below.refl _ _).alloc (by simp) _⟩
theorem rest_bel (l x : Int) (w : World) (h : IntKind.i64.wrap (l - x) = l - x) :
    Calls Try.prog 35 #[.int .i64 l, .int .i64 x] w fun e w' => e = .returned (.int .i64 (rstV l x)) ∧ Below w.heap.size w w' := by
  refine (rest_any l x w h).mono ?_
  rintro e w1 ⟨rfl, rfl⟩
  exact ⟨rfl, Below.refl _ _⟩
theorem lft_min (j : Jb) : (rstV j.d j.ran < wstV j → lftV j = rstV j.d j.ran) ∧ (wstV j ≤ rstV j.d j.ran → lftV j = wstV j) ∧ 0 ≤ wstV j ∧ 0 ≤ rstV j.d j.ran := by
  obtain ⟨o, n, r, u, b, c, d, x⟩ := j
  cases o
  · simp only [lftV, wstV, rstV]
    simp
    split <;> omega
  · by_cases h1 : x < c <;> by_cases h2 : x < d <;> by_cases h3 : d < c <;> simp [lftV, wstV, rstV, h1, h2, h3] <;> omega
set_option maxHeartbeats 2000000 in
set_option maxRecDepth 100000 in
theorem left_any (o : Bool) (n r u : Int) (b : Bool) (c d x : Int) (w : World) (h : IntKind.i64.wrap (c - x) = c - x) (h2 : IntKind.i64.wrap (d - x) = d - x) :
    Calls Try.prog 22 #[.agg #[.bool o, .int .i64 n, .int .i64 r, .int .i64 u, .bool b, .int .i64 c, .int .i64 d, .int .i64 x]] w fun e w' => e = .returned (.int .i64 (lftV ⟨o, n, r, u, b, c, d, x⟩)) ∧ Below w.heap.size w w' := by
  have HW : Hid (IntKind.i64.wrap (c - x) = c - x ∧ IntKind.i64.wrap (d - x) = d - x) := ⟨h, h2⟩
  clear h h2
  obtain ⟨p, hp⟩ : ∃ p, wstV ⟨o, n, r, u, b, c, d, x⟩ = p := ⟨_, rfl⟩
  obtain ⟨q, hq⟩ : ∃ q, rstV d x = q := ⟨_, rfl⟩
  have HP : Hid (wstV ⟨o, n, r, u, b, c, d, x⟩ = p) := hp
  have HQ : Hid (rstV d x = q) := hq
  have HF : Hid ((q < p → lftV ⟨o, n, r, u, b, c, d, x⟩ = q) ∧ (p ≤ q → lftV ⟨o, n, r, u, b, c, d, x⟩ = p) ∧ 0 ≤ p ∧ 0 ≤ q) := by
    show _ ∧ _
    subst hp hq
    exact lft_min ⟨o, n, r, u, b, c, d, x⟩
  clear hp hq
  have HB : Hid (Below w.heap.size w (w.alloc (.cells #[.bool o, .int .i64 n, .int .i64 r, .int .i64 u, .bool b, .int .i64 c, .int .i64 d, .int .i64 x] 28))) := (Below.refl _ _).alloc (by simp) _
  have hJ := Eit.new w ⟨o, n, r, u, b, c, d, x⟩
  go_enter Try.func22, Try.ntmps22
  go_wp2_with fail
  generalize hW : (w.alloc (.cells #[.bool o, .int .i64 n, .int .i64 r, .int .i64 u, .bool b, .int .i64 c, .int .i64 d, .int .i64 x] 28)) = W at *
  have MK : Hid (∀ w', Below W.heap.size W w' → (w'.cell? ⟨w.heap.size, 0, none⟩ = some (.bool o) ∧ w'.cell? ⟨w.heap.size, 1, none⟩ = some (.int .i64 n) ∧ w'.cell? ⟨w.heap.size, 2, none⟩ = some (.int .i64 r) ∧ w'.cell? ⟨w.heap.size, 3, none⟩ = some (.int .i64 u) ∧ w'.cell? ⟨w.heap.size, 4, none⟩ = some (.bool b) ∧ w'.cell? ⟨w.heap.size, 5, none⟩ = some (.int .i64 c) ∧ w'.cell? ⟨w.heap.size, 6, none⟩ = some (.int .i64 d) ∧ w'.cell? ⟨w.heap.size, 7, none⟩ = some (.int .i64 x)) ∧ Below W.heap.size W w') := by
    intro w' hb
    obtain ⟨x0, x1, x2, x3, x4, x5, x6, x7, _⟩ := (hJ.later hb).op
    exact ⟨⟨x0, x1, x2, x3, x4, x5, x6, x7⟩, hb⟩
  clear hJ hW
  go_region_held3 (fun w' => (w'.cell? ⟨w.heap.size, 0, none⟩ = some (.bool o) ∧ w'.cell? ⟨w.heap.size, 1, none⟩ = some (.int .i64 n) ∧ w'.cell? ⟨w.heap.size, 2, none⟩ = some (.int .i64 r) ∧ w'.cell? ⟨w.heap.size, 3, none⟩ = some (.int .i64 u) ∧ w'.cell? ⟨w.heap.size, 4, none⟩ = some (.bool b) ∧ w'.cell? ⟨w.heap.size, 5, none⟩ = some (.int .i64 c) ∧ w'.cell? ⟨w.heap.size, 6, none⟩ = some (.int .i64 d) ∧ w'.cell? ⟨w.heap.size, 7, none⟩ = some (.int .i64 x)) ∧ Below W.heap.size W w')
    (first | assumption | exact MK.out _ (bstep (by assumption) (sBel (by assumption))) | exact MK.out _ (Below.refl _ _).drew)
    (first | (go_at_call 34; refine (worst_any o n r u b c d x _ HW.out.1).mono ?_; rintro e w6 ⟨rfl, hb6⟩; rw [HP.out]) | (go_at_call 35; refine (rest_bel d x _ HW.out.2).mono ?_; rintro e w7 ⟨rfl, hb7⟩; rw [HQ.out]))
  all_goals go_wp2
  all_goals
    go_ret
    refine ⟨ret_i ?_, HB.out.trans ((sBel (by assumption)).mono (HB.out.size))⟩
    have hF := HF.out
    omega
end Go.Proofs.Ytcdkocdjbpebpaa
