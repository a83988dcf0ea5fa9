/- The walk of the statement UnitsTell: it returns true, and writes nothing that was there. -/
import Derived.Test.YtchhniejahbgcaaDoorU5
import Derived.Test.YtchhniejahbgcaaDoorU10
namespace Go.Proofs.YtchhniejahbgcaaDoor
open Go.RowKit

theorem fits_bel (ks : List Int) (v : Value) (w : World) (h : Nums w v ks) (hL : Lim w) :
    Calls Tryd.prog 17 #[v] w fun e w' => e = .returned (.bool (fitB6 ks)) ∧ Below w.heap.size w w' :=
  (fits_any ks v w h hL).mono fun _ _ h => ⟨h.1, by rw [h.2]; exact Below.refl _ _⟩
theorem refFits_bel (ks : List Int) (v : Value) (w : World) (h : Nums w v ks) :
    Calls Tryd.prog 18 #[v] w fun e w' => e = .returned (.bool (fitB6 ks)) ∧ Below w.heap.size w w' :=
  (refFits_any ks v w h).mono fun _ _ h => ⟨h.1, by rw [h.2]; exact Below.refl _ _⟩

set_option maxHeartbeats 2000000 in
set_option maxRecDepth 100000 in
theorem law_utell (c t x m k e p : Int) (ks : List Int) (v : Value) (w : World) (h : Nums w v ks) (hL : Lim w) :
    Calls Tryd.prog 3 #[.agg #[.int .i64 c, .int .i64 t, .int .i64 x, .int .i64 m, .int .i64 k, .int .i64 e], .int .i64 p, v] w fun r w' => r = .returned (.bool true) ∧ Below w.heap.size w w' := by
  have hS : Six (w.alloc (.cells #[.int .i64 c, .int .i64 t, .int .i64 x, .int .i64 m, .int .i64 k, .int .i64 e] 23)) w.heap.size (Sp.at ⟨c, t, x, m, k, e⟩) := Six.new w ⟨c, t, x, m, k, e⟩
  have hb0 : Below w.heap.size w (w.alloc (.cells #[.int .i64 c, .int .i64 t, .int .i64 x, .int .i64 m, .int .i64 k, .int .i64 e] 23)) := (Below.refl _ _).alloc (Nat.le_refl _) _
  have HN : Hid (Nums w v ks ∧ Lim w) := ⟨h, hL⟩
  clear hL
  obtain ⟨a, cap, rfl, h1, h2, h3⟩ := h
  clear h3
  go_enter Tryd.func3, Tryd.ntmps3
  go_wp2_with fail
  refine (awake6_any _ (HN.out.2.later hb0)).mono ?_
  rintro r w1 ⟨rfl, hb1⟩
  have hS1 := hS.later hb1
  replace hb1 : Below w.heap.size w w1 := hb0.trans (hb1.mono (by simp))
  clear hS hb0
  have HB1 : Hid (Below w.heap.size w w1) := hb1
  clear hb1
  by_cases cl : (ks.length : Int) > 1100
  · clear hS1
    go_wp2
    go_ret
    exact ⟨rfl, HB1.out⟩
  · have H6 : Hid (Six w1 w.heap.size (Sp.at ⟨c, t, x, m, k, e⟩)) := hS1
    clear hS1
    go_wp2_with fail
    refine (sum_any ks _ _ (HN.out.1.later HB1.out) (HN.out.2.later HB1.out)).mono ?_
    rintro r w2 ⟨rfl, rfl⟩
    go_wp2_with fail
    refine (refSum_any ks _ _ (HN.out.1.later HB1.out)).mono ?_
    rintro r W ⟨rfl, rfl⟩
    obtain ⟨z, hz⟩ : ∃ z, sumV ks = z := ⟨_, rfl⟩
    obtain ⟨q, hq⟩ : ∃ q, sumB ks = q := ⟨_, rfl⟩
    obtain ⟨f, hf⟩ : ∃ f, fitB6 ks = f := ⟨_, rfl⟩
    obtain ⟨a1, ha1⟩ : ∃ a, atV ⟨c, t, x, m, k, e⟩ p = a := ⟨_, rfl⟩
    obtain ⟨a2, ha2⟩ : ∃ a, atV ⟨c, t, x, m, k, e⟩ t = a := ⟨_, rfl⟩
    obtain ⟨a3, ha3⟩ : ∃ a, leastV ⟨c, t, x, m, k, e⟩ = a := ⟨_, rfl⟩
    rw [hz, hq]
    have HF : Hid (fitB6 ks = f) := hf
    have HV : Hid (atV ⟨c, t, x, m, k, e⟩ p = a1 ∧ atV ⟨c, t, x, m, k, e⟩ t = a2 ∧ leastV ⟨c, t, x, m, k, e⟩ = a3) := ⟨ha1, ha2, ha3⟩
    clear hz hq hf ha1 ha2 ha3
    have MK : Hid (∀ w' : World, Below W.heap.size W w' → (w'.cell? ⟨w.heap.size, 0, none⟩ = some (.int .i64 c) ∧ w'.cell? ⟨w.heap.size, 1, none⟩ = some (.int .i64 t) ∧ w'.cell? ⟨w.heap.size, 2, none⟩ = some (.int .i64 x) ∧ w'.cell? ⟨w.heap.size, 3, none⟩ = some (.int .i64 m) ∧ w'.cell? ⟨w.heap.size, 4, none⟩ = some (.int .i64 k) ∧ w'.cell? ⟨w.heap.size, 5, none⟩ = some (.int .i64 e)) ∧ Below W.heap.size W w') := by
      intro w' hb
      obtain ⟨x0, x1, x2, x3, x4, x5, _⟩ := (H6.out.later hb).sp
      exact ⟨⟨x0, x1, x2, x3, x4, x5⟩, hb⟩
    have ML : Hid (∀ w' : World, Below W.heap.size W w' → Nums w' (.slice a ks.length cap) ks ∧ Lim w') := fun w' hb => ⟨(HN.out.1.later HB1.out).later hb, (HN.out.2.later HB1.out).later hb⟩
    have s1 := HB1.out.size
    have d1 : (a1 == a1) = true := by simp
    have d2 : (a2 == a2) = true := by simp
    have d3 : (a3 == a3) = true := by simp
    have d4 : (z == z) = true := by simp
    have d5 : (q == q) = true := by simp
    have d6 : (f == f) = true := by simp
    clear HN H6
    go_wp2_with fail
    go_region_held3 (fun w' => (w'.cell? ⟨w.heap.size, 0, none⟩ = some (.int .i64 c) ∧ w'.cell? ⟨w.heap.size, 1, none⟩ = some (.int .i64 t) ∧ w'.cell? ⟨w.heap.size, 2, none⟩ = some (.int .i64 x) ∧ w'.cell? ⟨w.heap.size, 3, none⟩ = some (.int .i64 m) ∧ w'.cell? ⟨w.heap.size, 4, none⟩ = some (.int .i64 k) ∧ w'.cell? ⟨w.heap.size, 5, none⟩ = some (.int .i64 e)) ∧ Below W.heap.size W w')
      (first | exact MK.out _ (bstep (by assumption) (sBel (by assumption))) | exact MK.out _ (Below.refl _ _).drew)
      (first
      | (go_at_call 11; refine (at_any _ _ _ _ _ _ _ _).mono ?_; rintro r w3 ⟨rfl, hb3⟩; rw [HV.out.1])
      | (go_at_call 12; refine (refAt_any _ _ _ _ _ _ _ _).mono ?_; rintro r w3 ⟨rfl, hb3⟩; rw [HV.out.1])
      | (go_at_call 13; refine (top_any _ _ _ _ _ _ _).mono ?_; rintro r w3 ⟨rfl, hb3⟩; rw [HV.out.2.1])
      | (go_at_call 14; refine (refTop_any _ _ _ _ _ _ _).mono ?_; rintro r w3 ⟨rfl, hb3⟩; rw [HV.out.2.1])
      | (go_at_call 15; refine (least_any _ _ _ _ _ _ _).mono ?_; rintro r w3 ⟨rfl, hb3⟩; rw [HV.out.2.2])
      | (go_at_call 16; refine (refLeast_any _ _ _ _ _ _ _).mono ?_; rintro r w3 ⟨rfl, hb3⟩; rw [HV.out.2.2])
      | (go_at_call 17; refine (fits_bel ks _ _ (ML.out _ (sBel (by assumption))).1 (ML.out _ (sBel (by assumption))).2).mono ?_; rintro r w3 ⟨rfl, hb3⟩; rw [HF.out])
      | (go_at_call 18; refine (refFits_bel ks _ _ (ML.out _ (sBel (by assumption))).1).mono ?_; rintro r w3 ⟨rfl, hb3⟩; rw [HF.out]))
    all_goals
      go_wp2
      go_ret
      exact ⟨by first | rfl | simp, HB1.out.trans ((sBel (by assumption)).mono s1)⟩
end Go.Proofs.YtchhniejahbgcaaDoor
