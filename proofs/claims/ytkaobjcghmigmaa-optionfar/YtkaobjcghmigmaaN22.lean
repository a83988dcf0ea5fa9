/- OptionFar: a good outcome makes a job that need not run no more urgent; a mandatory one is none. -/
import Derived.Test.YtkaobjcghmigmaaN20
import Derived.Test.YtkaobjcghmigmaaJ7
import Derived.Test.YtkaobjcghmigmaaR3
import Derived.Test.YtkaobjcghmigmaaS3
import Derived.Deep.CutRange
namespace Go.Proofs.Ytkaobjcghmigmaa
open Go.RowKit

def OfV14 (N B m k id : Int) (j : Jb) (y : Int × Int × Int) : Prop := (ofB14 j = true → FarIs N B m k y.1 ∧ y.2.1 = j.due ∧ y.2.2 = id) ∧ (ofB14 j = false → y = (0, 0, 0))
theorem OfV14.unique {N B m k id : Int} {j : Jb} {y z : Int × Int × Int} (h : OfV14 N B m k id j y) (h' : OfV14 N B m k id j z) : y = z := by
  cases hz : ofB14 j with
  | false => rw [h.2 hz, h'.2 hz]
  | true =>
    obtain ⟨h1, h2, h3⟩ := h.1 hz
    obtain ⟨g1, g2, g3⟩ := h'.1 hz
    obtain ⟨p, q, t⟩ := y
    obtain ⟨p', q', t'⟩ := z
    simp only at h1 h2 h3 g1 g2 g3
    rw [h1.unique g1, h2, g2, h3, g3]
/-- What Of tells, whatever it tells. -/
def OfW14 (N B m k id : Int) (j : Jb) (w : World) (e : Ending) (w' : World) : Prop := ∃ y : Int × Int × Int, e = .returned (.tuple #[.agg #[.int .i64 y.1, .int .i64 y.2.1, .int .i64 y.2.2], .bool (ofB14 j)]) ∧ OfV14 N B m k id j y ∧ Below w.heap.size w w'
theorem of14_val (id ec et ex em ek ee : Int) (o : Bool) (n r u : Int) (b : Bool) (c d x N B : Int) (w : World) (h1 : IntKind.i64.wrap (c - x) = c - x) (h2 : IntKind.i64.wrap (d - x) = d - x) (b0 : 0 ≤ B) :
    Calls Try.prog 9 #[.int .i64 id, .agg #[.int .i64 ec, .int .i64 et, .int .i64 ex, .int .i64 em, .int .i64 ek, .int .i64 ee], .agg #[.bool o, .int .i64 n, .int .i64 r, .int .i64 u, .bool b, .int .i64 c, .int .i64 d, .int .i64 x], .agg #[.int .i64 N, .int .u64 B]] w (OfW14 N B em ek id ⟨o, n, r, u, b, c, d, x⟩ w) := by
  refine (of14_any id ec et ex em ek ee o n r u b c d x N B w h1 h2 b0).mono ?_
  rintro e w' ⟨hb, ⟨hz, rfl⟩ | ⟨hz, q, hq, rfl⟩⟩
  · exact ⟨(0, 0, 0), by rw [hz], ⟨fun h => (by rw [hz] at h; cases h), fun _ => rfl⟩, hb⟩
  · exact ⟨(q, u, id), by rw [hz], ⟨fun _ => ⟨hq, rfl, rfl⟩, fun h => (by rw [hz] at h; cases h)⟩, hb⟩

theorem maySp_eq14 (s : Sp) : maySp s = decide (1 ≤ s.c ∧ s.c ≤ 6 ∧ s.c ≤ s.t ∧ s.t ≤ s.x ∧ s.x ≤ 48 ∧ (1 ≤ s.m ∧ s.m ≤ s.k ∧ s.k ≤ 6) ∧ 0 ≤ s.e ∧ s.e ≤ 8 ∧ (s.e ≠ 0 ∨ s.t = s.x)) := by
  have e : maySp s = (((((fitC s && fitT s) && fitX s) && fitW s) && fitW s) && fitE s) := by
    show ((((((true && fitC s) && fitT s) && fitX s) && fitW s) && fitW s) && fitE s) = _
    rw [Bool.true_and]
  rw [e]
  unfold fitC fitT fitX fitW fitE wiB leT mayB
  rw [Bool.eq_iff_iff]
  simp only [Bool.and_eq_true, decide_eq_true_eq]
  by_cases h : s.e = 0
  · simp only [h, if_true]; omega
  · simp only [h, if_false]; omega

theorem far_facts {s : Sp} {j : Jb} (h : jmB s j = true) : IntKind.i64.wrap (j.c - j.ran) = j.c - j.ran ∧ IntKind.i64.wrap (j.d - j.ran) = j.d - j.ran ∧ ofB14 j = (j.on && !j.md) ∧ maySp s = true := by
  have hs : maySp s = true := by
    cases hs : maySp s with
    | true => rfl
    | false => unfold jmB at h; rw [hs] at h; cases h
  obtain ⟨o, n, r, u, b, c, d, x⟩ := j
  have hs2 := hs
  rw [maySp_eq14] at hs2
  obtain ⟨f1, f2, f3, f4, f5, _⟩ := of_decide_eq_true hs2
  cases o with
  | false =>
    unfold jmB at h
    rw [hs] at h
    simp [zeB] at h
    obtain ⟨_, hb, hc, hd, hx⟩ := h
    subst hc hd hx
    exact ⟨(by decide : IntKind.i64.wrap ((0 : Int) - 0) = 0 - 0), (by decide : IntKind.i64.wrap ((0 : Int) - 0) = 0 - 0), by simp [ofB14], hs⟩
  | true =>
    have hj : jinB s ⟨true, n, r, u, b, c, d, x⟩ = true := by unfold jmB at h; rw [hs] at h; exact h
    obtain ⟨_, _, h1, h2, h3, h4, h5, h6⟩ := jin_facts hj
    simp only at h1 h2 h3 h4 h5 h6
    refine ⟨(by rw [IntKind.wrap_i64]; omega : IntKind.i64.wrap (c - x) = c - x), (by rw [IntKind.wrap_i64]; omega : IntKind.i64.wrap (d - x) = d - x), ?_, hs⟩
    have hl : lftV ⟨true, n, r, u, b, c, d, x⟩ ≠ 0 := by
      simp only [lftV, h5, h6, and_self, if_true]
      by_cases c1 : d < c
      · rw [if_pos c1]; omega
      · rw [if_neg c1]; omega
    simp [ofB14, hl]
theorem far_le {s : Sp} {N B q q' : Int} (h : FarIs N B s.m s.k q) (h' : FarIs ((true :: ringOf N B).take 60).length (val ((true :: ringOf N B).take 60)) s.m s.k q') (hs : maySp s = true) (_hm : mayR N B = true) : q ≤ q' ∧ 0 ≤ q ∧ q ≤ s.k := by
  have hs2 := hs
  rw [maySp_eq14] at hs2
  obtain ⟨_, _, _, _, _, ⟨m0, mk, k6⟩, _⟩ := of_decide_eq_true hs2
  rcases h with ⟨h1, _⟩ | ⟨_, _, _, p, rfl, hp⟩
  · rw [mayB_mk m0 mk k6] at h1; cases h1
  rcases h' with ⟨h1, _⟩ | ⟨_, _, _, p', rfl, hp'⟩
  · rw [mayB_mk m0 mk k6] at h1; cases h1
  rw [ringOf_val (by simp; omega)] at hp'
  have := far_good (by omega) hp hp'
  have h2 := hp.1
  exact ⟨by omega, by omega, by omega⟩

set_option maxHeartbeats 1000000 in
set_option maxRecDepth 100000 in
theorem law_ofar (id ec et ex em ek ee : Int) (o : Bool) (n r u : Int) (b : Bool) (c d x N B : Int) (w : World) (b0 : 0 ≤ B) :
    Calls Try.prog 7 #[.int .i64 id, .agg #[.int .i64 ec, .int .i64 et, .int .i64 ex, .int .i64 em, .int .i64 ek, .int .i64 ee], .agg #[.bool o, .int .i64 n, .int .i64 r, .int .i64 u, .bool b, .int .i64 c, .int .i64 d, .int .i64 x], .agg #[.int .i64 N, .int .u64 B]] w fun e w' => e = .returned (.bool true) ∧ Below w.heap.size w w' := by
  have hS : Six (((w.alloc (.cells #[.int .i64 ec, .int .i64 et, .int .i64 ex, .int .i64 em, .int .i64 ek, .int .i64 ee] 26)).alloc (.cells #[.bool o, .int .i64 n, .int .i64 r, .int .i64 u, .bool b, .int .i64 c, .int .i64 d, .int .i64 x] 28)).alloc (.cells #[.int .i64 N, .int .u64 B] 31)) w.heap.size (Sp.at ⟨ec, et, ex, em, ek, ee⟩) := (Six.new w ⟨ec, et, ex, em, ek, ee⟩).later (below_a2 _ _ _)
  have hJ : Eit (((w.alloc (.cells #[.int .i64 ec, .int .i64 et, .int .i64 ex, .int .i64 em, .int .i64 ek, .int .i64 ee] 26)).alloc (.cells #[.bool o, .int .i64 n, .int .i64 r, .int .i64 u, .bool b, .int .i64 c, .int .i64 d, .int .i64 x] 28)).alloc (.cells #[.int .i64 N, .int .u64 B] 31)) (w.heap.size + 1) ⟨o, n, r, u, b, c, d, x⟩ := by have := (Eit.new (w.alloc (.cells #[.int .i64 ec, .int .i64 et, .int .i64 ex, .int .i64 em, .int .i64 ek, .int .i64 ee] 26)) ⟨o, n, r, u, b, c, d, x⟩).later (below_a1 _ (.cells #[.int .i64 N, .int .u64 B] 31)); simp only [World.size_alloc] at this; exact this
  have hR0 := (fun X : World => (by simp : (X.alloc (.cells #[.int .i64 N, .int .u64 B] 31)).cell? ⟨X.heap.size, 0, none⟩ = some (.int .i64 N))) ((w.alloc (.cells #[.int .i64 ec, .int .i64 et, .int .i64 ex, .int .i64 em, .int .i64 ek, .int .i64 ee] 26)).alloc (.cells #[.bool o, .int .i64 n, .int .i64 r, .int .i64 u, .bool b, .int .i64 c, .int .i64 d, .int .i64 x] 28))
  have hR1 := (fun X : World => (by simp : (X.alloc (.cells #[.int .i64 N, .int .u64 B] 31)).cell? ⟨X.heap.size, 1, none⟩ = some (.int .u64 B))) ((w.alloc (.cells #[.int .i64 ec, .int .i64 et, .int .i64 ex, .int .i64 em, .int .i64 ek, .int .i64 ee] 26)).alloc (.cells #[.bool o, .int .i64 n, .int .i64 r, .int .i64 u, .bool b, .int .i64 c, .int .i64 d, .int .i64 x] 28))
  simp only [World.size_alloc] at hR0 hR1
  have HE : Hid (Below w.heap.size w (((w.alloc (.cells #[.int .i64 ec, .int .i64 et, .int .i64 ex, .int .i64 em, .int .i64 ek, .int .i64 ee] 26)).alloc (.cells #[.bool o, .int .i64 n, .int .i64 r, .int .i64 u, .bool b, .int .i64 c, .int .i64 d, .int .i64 x] 28)).alloc (.cells #[.int .i64 N, .int .u64 B] 31))) := below_a3 _ _ _ _
  go_enter Try.func7, Try.ntmps7
  go_wp2_with fail
  generalize (((w.alloc (.cells #[.int .i64 ec, .int .i64 et, .int .i64 ex, .int .i64 em, .int .i64 ek, .int .i64 ee] 26)).alloc (.cells #[.bool o, .int .i64 n, .int .i64 r, .int .i64 u, .bool b, .int .i64 c, .int .i64 d, .int .i64 x] 28)).alloc (.cells #[.int .i64 N, .int .u64 B] 31)) = W at *
  have HC : Hid (∀ w', Below W.heap.size W w' → w'.cell? ⟨w.heap.size, 0, none⟩ = some (.int .i64 ec) ∧ w'.cell? ⟨w.heap.size, 1, none⟩ = some (.int .i64 et) ∧ w'.cell? ⟨w.heap.size, 2, none⟩ = some (.int .i64 ex) ∧ w'.cell? ⟨w.heap.size, 3, none⟩ = some (.int .i64 em) ∧ w'.cell? ⟨w.heap.size, 4, none⟩ = some (.int .i64 ek) ∧ w'.cell? ⟨w.heap.size, 5, none⟩ = some (.int .i64 ee) ∧ w'.cell? ⟨w.heap.size + 1, 0, none⟩ = some (.bool o) ∧ w'.cell? ⟨w.heap.size + 1, 1, none⟩ = some (.int .i64 n) ∧ w'.cell? ⟨w.heap.size + 1, 2, none⟩ = some (.int .i64 r) ∧ w'.cell? ⟨w.heap.size + 1, 3, none⟩ = some (.int .i64 u) ∧ w'.cell? ⟨w.heap.size + 1, 4, none⟩ = some (.bool b) ∧ w'.cell? ⟨w.heap.size + 1, 5, none⟩ = some (.int .i64 c) ∧ w'.cell? ⟨w.heap.size + 1, 6, none⟩ = some (.int .i64 d) ∧ w'.cell? ⟨w.heap.size + 1, 7, none⟩ = some (.int .i64 x) ∧ w'.cell? ⟨w.heap.size + 2, 0, none⟩ = some (.int .i64 N) ∧ w'.cell? ⟨w.heap.size + 2, 1, none⟩ = some (.int .u64 B)) := by
    intro w' hb
    obtain ⟨s0, s1, s2, s3, s4, s5, _⟩ := (hS.later hb).sp
    obtain ⟨j0, j1, j2, j3, j4, j5, j6, j7, _⟩ := (hJ.later hb).op
    exact ⟨s0, s1, s2, s3, s4, s5, j0, j1, j2, j3, j4, j5, j6, j7, cell_later hb hR0, cell_later hb hR1⟩
  clear hS hJ hR0 hR1
  refine (awake14_any _).mono ?_
  rintro e w1 ⟨rfl, hb1⟩
  have HB1 : Hid (Below W.heap.size W w1) := hb1
  clear hb1
  obtain ⟨s0, s1, s2, s3, s4, s5, j0, j1, j2, j3, j4, j5, j6, j7, r0, r1⟩ := HC.out _ (HB1.out)
  obtain ⟨p1, hp1⟩ : ∃ p1, jmB ⟨ec, et, ex, em, ek, ee⟩ ⟨o, n, r, u, b, c, d, x⟩ = p1 := ⟨_, rfl⟩
  have HJ : Hid (jmB ⟨ec, et, ex, em, ek, ee⟩ ⟨o, n, r, u, b, c, d, x⟩ = p1) := hp1
  clear hp1
  go_wp2_with fail
  refine (jmay_any ec et ex em ek ee o n r u b c d x _).mono ?_
  rintro e w2 ⟨rfl, hb⟩
  rw [HJ.out]
  have HB2 : Hid (Below W.heap.size W w2) := HB1.out.trans (hb.mono HB1.out.size)
  clear hb s0 s1 s2 s3 s4 s5 j0 j1 j2 j3 j4 j5 j6 j7 r0 r1
  obtain ⟨s0, s1, s2, s3, s4, s5, j0, j1, j2, j3, j4, j5, j6, j7, r0, r1⟩ := HC.out _ (HB2.out)
  cases p1 with
  | false =>
    go_wp2; go_ret; exact ⟨rfl, HE.out.trans (HB2.out.mono HE.out.size)⟩
  | true =>
    obtain ⟨p2, hp2⟩ : ∃ p2, mayR N B = p2 := ⟨_, rfl⟩
    have HM : Hid (mayR N B = p2) := hp2
    clear hp2
    go_wp2_with fail
    refine (rmay_any N B _).mono ?_
    rintro e w3 ⟨rfl, hb⟩
    rw [HM.out]
    have HB3 : Hid (Below W.heap.size W w3) := HB2.out.trans (hb.mono HB2.out.size)
    clear hb s0 s1 s2 s3 s4 s5 j0 j1 j2 j3 j4 j5 j6 j7 r0 r1
    obtain ⟨s0, s1, s2, s3, s4, s5, j0, j1, j2, j3, j4, j5, j6, j7, r0, r1⟩ := HC.out _ (HB3.out)
    cases p2 with
    | false =>
      go_wp2; go_ret; exact ⟨rfl, HE.out.trans (HB3.out.mono HE.out.size)⟩
    | true =>
      have HF := far_facts HJ.out
      have h1 : IntKind.i64.wrap (c - x) = c - x := HF.1
      have h2 : IntKind.i64.wrap (d - x) = d - x := HF.2.1
      have HZ : Hid (ofB14 ⟨o, n, r, u, b, c, d, x⟩ = (o && !b) ∧ maySp ⟨ec, et, ex, em, ek, ee⟩ = true) := HF.2.2
      have HW : Hid (IntKind.i64.wrap (c - x) = c - x ∧ IntKind.i64.wrap (d - x) = d - x) := ⟨h1, h2⟩
      clear h1 h2 HF
      go_wp2_with fail
      refine (of14_val id ec et ex em ek ee o n r u b c d x N B _ HW.out.1 HW.out.2 b0).mono ?_
      rintro e w4 ⟨⟨y0, y1, y2⟩, rfl, hv, hb⟩
      rw [HZ.out.1]
      have HV : Hid (OfV14 N B em ek id ⟨o, n, r, u, b, c, d, x⟩ (y0, y1, y2)) := hv
      have HB4 : Hid (Below W.heap.size W (w4.alloc (.cells #[.int .i64 y0, .int .i64 y1, .int .i64 y2] 24))) := (HB3.out.trans (hb.mono HB3.out.size)).alloc (HB3.out.trans (hb.mono HB3.out.size)).size _
      have HT4 : Hid (Thr (w4.alloc (.cells #[.int .i64 y0, .int .i64 y1, .int .i64 y2] 24)) w4.heap.size y0 y1 y2) := Thr.new _ _ _ _ _
      clear hb hv s0 s1 s2 s3 s4 s5 j0 j1 j2 j3 j4 j5 j6 j7 r0 r1
      obtain ⟨zs, hzs⟩ : ∃ zs, (true :: ringOf N B).take 60 = zs := ⟨_, rfl⟩
      have HZS : Hid ((true :: ringOf N B).take 60 = zs) := hzs
      clear hzs
      go_upto_region 5 with fail
      generalize w4.alloc (.cells #[.int .i64 y0, .int .i64 y1, .int .i64 y2] 24) = W2 at *
      go_cut [12, 13] from 38 to 45 (fun s12 s13 wc => ∃ (p : Nat) (z : Int × Int × Int), s12 = .pointer (some ⟨p, 0, none⟩) ∧ s13 = .bool (o && !b) ∧ OfV14 zs.length (val zs) em ek id ⟨o, n, r, u, b, c, d, x⟩ z ∧ Thr wc p z.1 z.2.1 z.2.2 ∧ Below W2.heap.size W2 wc)
      case first =>
        have HS : Hid (∀ w', Below W2.heap.size W2 w' → w'.cell? ⟨w.heap.size, 0, none⟩ = some (.int .i64 ec) ∧ w'.cell? ⟨w.heap.size, 1, none⟩ = some (.int .i64 et) ∧ w'.cell? ⟨w.heap.size, 2, none⟩ = some (.int .i64 ex) ∧ w'.cell? ⟨w.heap.size, 3, none⟩ = some (.int .i64 em) ∧ w'.cell? ⟨w.heap.size, 4, none⟩ = some (.int .i64 ek) ∧ w'.cell? ⟨w.heap.size, 5, none⟩ = some (.int .i64 ee) ∧ w'.cell? ⟨w.heap.size + 1, 0, none⟩ = some (.bool o) ∧ w'.cell? ⟨w.heap.size + 1, 1, none⟩ = some (.int .i64 n) ∧ w'.cell? ⟨w.heap.size + 1, 2, none⟩ = some (.int .i64 r) ∧ w'.cell? ⟨w.heap.size + 1, 3, none⟩ = some (.int .i64 u) ∧ w'.cell? ⟨w.heap.size + 1, 4, none⟩ = some (.bool b) ∧ w'.cell? ⟨w.heap.size + 1, 5, none⟩ = some (.int .i64 c) ∧ w'.cell? ⟨w.heap.size + 1, 6, none⟩ = some (.int .i64 d) ∧ w'.cell? ⟨w.heap.size + 1, 7, none⟩ = some (.int .i64 x) ∧ w'.cell? ⟨w.heap.size + 2, 0, none⟩ = some (.int .i64 N) ∧ w'.cell? ⟨w.heap.size + 2, 1, none⟩ = some (.int .u64 B)) := fun w' hb => HC.out w' (HB4.out.trans (hb.mono HB4.out.size))
        have HO2 : Hid (∀ w', Calls Try.prog 9 #[.int .i64 id, .agg #[.int .i64 ec, .int .i64 et, .int .i64 ex, .int .i64 em, .int .i64 ek, .int .i64 ee], .agg #[.bool o, .int .i64 n, .int .i64 r, .int .i64 u, .bool b, .int .i64 c, .int .i64 d, .int .i64 x], .agg #[.int .i64 zs.length, .int .u64 (val zs)]] w' fun e w'' => ∃ y : Int × Int × Int, e = .returned (.tuple #[.agg #[.int .i64 y.1, .int .i64 y.2.1, .int .i64 y.2.2], .bool (o && !b)]) ∧ OfV14 zs.length (val zs) em ek id ⟨o, n, r, u, b, c, d, x⟩ y ∧ Below w'.heap.size w' w'') := fun w' => by
          have := of14_val id ec et ex em ek ee o n r u b c d x zs.length (val zs) w' HW.out.1 HW.out.2 (by omega)
          rw [← HZ.out.1]
          exact this
        refine wp_region_held_drew (S := fun w' : World => w'.cell? ⟨w.heap.size, 0, none⟩ = some (.int .i64 ec) ∧ w'.cell? ⟨w.heap.size, 1, none⟩ = some (.int .i64 et) ∧ w'.cell? ⟨w.heap.size, 2, none⟩ = some (.int .i64 ex) ∧ w'.cell? ⟨w.heap.size, 3, none⟩ = some (.int .i64 em) ∧ w'.cell? ⟨w.heap.size, 4, none⟩ = some (.int .i64 ek) ∧ w'.cell? ⟨w.heap.size, 5, none⟩ = some (.int .i64 ee) ∧ w'.cell? ⟨w.heap.size + 1, 0, none⟩ = some (.bool o) ∧ w'.cell? ⟨w.heap.size + 1, 1, none⟩ = some (.int .i64 n) ∧ w'.cell? ⟨w.heap.size + 1, 2, none⟩ = some (.int .i64 r) ∧ w'.cell? ⟨w.heap.size + 1, 3, none⟩ = some (.int .i64 u) ∧ w'.cell? ⟨w.heap.size + 1, 4, none⟩ = some (.bool b) ∧ w'.cell? ⟨w.heap.size + 1, 5, none⟩ = some (.int .i64 c) ∧ w'.cell? ⟨w.heap.size + 1, 6, none⟩ = some (.int .i64 d) ∧ w'.cell? ⟨w.heap.size + 1, 7, none⟩ = some (.int .i64 x) ∧ w'.cell? ⟨w.heap.size + 2, 0, none⟩ = some (.int .i64 N) ∧ w'.cell? ⟨w.heap.size + 2, 1, none⟩ = some (.int .u64 B)) (by kernel_rfl) ?_ (fun hHeld => ?_)
        · exact HS.out _ (Below.refl _ _).drew
        have HBy0 : Hid (Below W2.heap.size W2 W2.drew) := (Below.refl _ _).drew
        generalize W2.drew = y0 at *
        refine wpAnyH_take (i := 0) (oi := { dst := some 38, op := Op.move (Operand.tmp 0), type := 3, pos := _, after := _, guard := none }) (v := ?_) rfl (by kernel_rfl) (by kernel_rfl) (by kernel_rfl) (fun _ _ _ h => h) (Or.inl ⟨by rfl, ?_⟩) (by assumption) ?_
        rotate_left
        · intro wS hSw; (try dsimp only at hSw); go_simp; first | done | with_reducible rfl
        try simp only [Act.put, List.setIfInBounds_toArray, List.set_cons_zero, List.set_cons_succ]
        refine wpAnyH_take (i := 1) (oi := { dst := some 39, op := Op.load 26 (Operand.tmp 5), type := 26, pos := _, after := _, guard := none }) (v := ?_) rfl (by kernel_rfl) (by kernel_rfl) (by kernel_rfl) (fun _ _ _ h => h) (Or.inl ⟨by rfl, ?_⟩) (by assumption) ?_
        rotate_left
        · intro wS hSw; (try dsimp only at hSw); go_simp; first | done | with_reducible rfl
        try simp only [Act.put, List.setIfInBounds_toArray, List.set_cons_zero, List.set_cons_succ]
        refine wpAnyH_take (i := 2) (oi := { dst := some 40, op := Op.load 28 (Operand.tmp 6), type := 28, pos := _, after := _, guard := none }) (v := ?_) rfl (by kernel_rfl) (by kernel_rfl) (by kernel_rfl) (fun _ _ _ h => h) (Or.inl ⟨by rfl, ?_⟩) (by assumption) ?_
        rotate_left
        · intro wS hSw; (try dsimp only at hSw); go_simp; first | done | with_reducible rfl
        try simp only [Act.put, List.setIfInBounds_toArray, List.set_cons_zero, List.set_cons_succ]
        refine wpAnyH_take (i := 3) (oi := { dst := some 41, op := Op.load 31 (Operand.tmp 7), type := 31, pos := _, after := _, guard := none }) (v := ?_) rfl (by kernel_rfl) (by kernel_rfl) (by kernel_rfl) (fun _ _ _ h => h) (Or.inl ⟨by rfl, ?_⟩) (by assumption) ?_
        rotate_left
        · intro wS hSw; (try dsimp only at hSw); go_simp; first | done | with_reducible rfl
        try simp only [Act.put, List.setIfInBounds_toArray, List.set_cons_zero, List.set_cons_succ]
        refine wpAnyH_ready (rs := [4, 9]) (by kernel_rfl) (by simp) ?_
        refine AllReadyH.cons (o := { dst := some 42, op := Op.call { callee := Callee.value (Operand.func 20), args := #[Operand.tmp 41, Operand.const (Value.bool true)], argTypes := #[31, 4] }, type := 31, pos := _, after := _, guard := none }) rfl (fun K hK => ?_) (AllReadyH.cons (o := { dst := some 12, op := Op.alloc 24, type := 0, pos := _, after := _, guard := none }) rfl (fun K hK => ?_) AllReadyH.nil)
        · go_simp
          refine (put_any N B true _ b0).mono ?_
          rintro e y1 ⟨rfl, hb⟩
          rw [HZS.out]
          unfold ringV
          have HBy1 : Hid (Below W2.heap.size W2 y1) := HBy0.out.trans (hb.mono HBy0.out.size)
          clear hb
          go_wp2_with fail
          refine hK.out _ _ ?_ (fun hHeld => ?_)
          · exact HS.out _ HBy1.out
          clear hK K
          try simp only [Act.put, List.setIfInBounds_toArray, List.set_cons_zero, List.set_cons_succ]
          refine wpAnyH_ready (rs := [5, 9]) (by kernel_rfl) (by simp) ?_
          refine AllReadyH.cons (o := { dst := some 43, op := Op.call { callee := Callee.value (Operand.func 9), args := #[Operand.tmp 38, Operand.tmp 39, Operand.tmp 40, Operand.tmp 42], argTypes := #[3, 26, 28, 31] }, type := 33, pos := _, after := _, guard := none }) rfl (fun K hK => ?_) (AllReadyH.cons (o := { dst := some 12, op := Op.alloc 24, type := 0, pos := _, after := _, guard := none }) rfl (fun K hK => ?_) AllReadyH.nil)
          · go_simp
            refine (HO2.out _).mono ?_
            rintro e y2 ⟨⟨x0', x1', x2'⟩, rfl, hv2, hb⟩
            have HV2 : Hid (OfV14 zs.length (val zs) em ek id ⟨o, n, r, u, b, c, d, x⟩ (x0', x1', x2')) := hv2
            clear hv2
            have HBy2 : Hid (Below W2.heap.size W2 y2) := HBy1.out.trans (hb.mono HBy1.out.size)
            clear hb
            go_wp2_with fail
            refine hK.out _ _ ?_ (fun hHeld => ?_)
            · exact HS.out _ HBy2.out
            clear hK K
            try simp only [Act.put, List.setIfInBounds_toArray, List.set_cons_zero, List.set_cons_succ]
            refine wpAnyH_take (i := 6) (oi := { dst := some 37, op := Op.move (Operand.tmp 43), type := 33, pos := _, after := _, guard := none }) (v := ?_) rfl (by kernel_rfl) (by kernel_rfl) (by kernel_rfl) (fun _ _ _ h => h) (Or.inl ⟨by rfl, ?_⟩) (by assumption) ?_
            rotate_left
            · intro wS hSw; (try dsimp only at hSw); go_simp; first | done | with_reducible rfl
            try simp only [Act.put, List.setIfInBounds_toArray, List.set_cons_zero, List.set_cons_succ]
            refine wpAnyH_take (i := 7) (oi := { dst := some 44, op := Op.extract (Operand.tmp 37) 0, type := 24, pos := _, after := _, guard := none }) (v := ?_) rfl (by kernel_rfl) (by kernel_rfl) (by kernel_rfl) (fun _ _ _ h => h) (Or.inl ⟨by rfl, ?_⟩) (by assumption) ?_
            rotate_left
            · intro wS hSw; (try dsimp only at hSw); go_simp; first | done | with_reducible rfl
            try simp only [Act.put, List.setIfInBounds_toArray, List.set_cons_zero, List.set_cons_succ]
            refine wpAnyH_take (i := 8) (oi := { dst := some 45, op := Op.extract (Operand.tmp 37) 1, type := 4, pos := _, after := _, guard := none }) (v := ?_) rfl (by kernel_rfl) (by kernel_rfl) (by kernel_rfl) (fun _ _ _ h => h) (Or.inl ⟨by rfl, ?_⟩) (by assumption) ?_
            rotate_left
            · intro wS hSw; (try dsimp only at hSw); go_simp; first | done | with_reducible rfl
            try simp only [Act.put, List.setIfInBounds_toArray, List.set_cons_zero, List.set_cons_succ]
            refine wpAnyH_ready (rs := [9]) (by kernel_rfl) (by simp) ?_
            refine AllReadyH.cons (o := { dst := some 12, op := Op.alloc 24, type := 0, pos := _, after := _, guard := none }) rfl (fun K hK => ?_) AllReadyH.nil
            go_simp
            obtain ⟨y3, ey3⟩ : ∃ y, y2.alloc (.cells #[.int .i64 0, .int .i64 0, .int .i64 0] 24) = y := ⟨_, rfl⟩
            rw [ey3]
            have LOW : Hid (W2.heap.size ≤ y2.heap.size) := HBy2.out.size
            have HBy3 : Hid (Below W2.heap.size W2 y3) := ey3 ▸ HBy2.out.alloc HBy2.out.size _
            have HTy3 : Hid (Tre y3 y2.heap.size 0 0 0) := ey3 ▸ Tre.newO _ 0 0 0
            clear ey3
            refine hK.out _ _ ?_ (fun hHeld => ?_)
            · exact HS.out _ HBy3.out
            clear hK K
            try simp only [Act.put, List.setIfInBounds_toArray, List.set_cons_zero, List.set_cons_succ]
            refine wpAnyH_ready (rs := [10]) (by kernel_rfl) (by simp) ?_
            refine AllReadyH.cons (o := { dst := none, op := Op.store 24 (Operand.tmp 12) (Operand.tmp 44), type := 0, pos := _, after := _, guard := none }) rfl (fun K hK => ?_) AllReadyH.nil
            obtain ⟨⟨z0, z1, z2⟩, t0, t1, t2⟩ := HTy3.out.tri
            go_simp
            obtain ⟨y4, ey4⟩ : ∃ y, ((y3.setCell ⟨y2.heap.size, 0, none⟩ (.int .i64 x0')).setCell ⟨y2.heap.size, 1, none⟩ (.int .i64 x1')).setCell ⟨y2.heap.size, 2, none⟩ (.int .i64 x2') = y := ⟨_, rfl⟩
            rw [ey4]
            have HTy4 : Hid (Tre y4 y2.heap.size x0' x1' x2') := ey4 ▸ HTy3.out.put x0' x1' x2'
            have HBy4 : Hid (Below W2.heap.size W2 y4) := ey4 ▸ below_put3 HBy3.out LOW.out _ _ _
            clear z0 z1 z2 t0 t1 t2 ey4
            refine hK.out _ _ ?_ (fun hHeld => ?_)
            · exact HS.out _ HBy4.out
            clear hK K
            try simp only [Act.put, List.setIfInBounds_toArray, List.set_cons_zero, List.set_cons_succ]
            refine wpAnyH_take (i := 11) (oi := { dst := some 13, op := Op.assign (Operand.tmp 45), type := 4, pos := _, after := _, guard := none }) (v := ?_) rfl (by kernel_rfl) (by kernel_rfl) (by kernel_rfl) (fun _ _ _ h => h) (Or.inl ⟨by rfl, ?_⟩) (by assumption) ?_
            rotate_left
            · intro wS hSw; (try dsimp only at hSw); go_simp; first | done | with_reducible rfl
            try simp only [Act.put, List.setIfInBounds_toArray, List.set_cons_zero, List.set_cons_succ]
            refine wpAnyH_done (by kernel_rfl) ?_ _
            go_wp2_with fail
            go_meet
            case rel => exact ⟨_, (x0', x1', x2'), rfl, rfl, HV2.out, HTy4.out.1, HBy4.out⟩
          · go_simp
            obtain ⟨y5, ey5⟩ : ∃ y, y1.alloc (.cells #[.int .i64 0, .int .i64 0, .int .i64 0] 24) = y := ⟨_, rfl⟩
            rw [ey5]
            have LOW : Hid (W2.heap.size ≤ y1.heap.size) := HBy1.out.size
            have HBy5 : Hid (Below W2.heap.size W2 y5) := ey5 ▸ HBy1.out.alloc HBy1.out.size _
            have HTy5 : Hid (Tre y5 y1.heap.size 0 0 0) := ey5 ▸ Tre.newO _ 0 0 0
            clear ey5
            refine hK.out _ _ ?_ (fun hHeld => ?_)
            · exact HS.out _ HBy5.out
            clear hK K
            try simp only [Act.put, List.setIfInBounds_toArray, List.set_cons_zero, List.set_cons_succ]
            refine wpAnyH_ready (rs := [5]) (by kernel_rfl) (by simp) ?_
            refine AllReadyH.cons (o := { dst := some 43, op := Op.call { callee := Callee.value (Operand.func 9), args := #[Operand.tmp 38, Operand.tmp 39, Operand.tmp 40, Operand.tmp 42], argTypes := #[3, 26, 28, 31] }, type := 33, pos := _, after := _, guard := none }) rfl (fun K hK => ?_) AllReadyH.nil
            go_simp
            refine (HO2.out _).mono ?_
            rintro e y6 ⟨⟨x0', x1', x2'⟩, rfl, hv2, hb⟩
            have HV2 : Hid (OfV14 zs.length (val zs) em ek id ⟨o, n, r, u, b, c, d, x⟩ (x0', x1', x2')) := hv2
            clear hv2
            have HBy6 : Hid (Below W2.heap.size W2 y6) := HBy5.out.trans (hb.mono HBy5.out.size)
            have HTy6 : Hid (Tre y6 y1.heap.size 0 0 0) := HTy5.out.later hb
            clear hb
            go_wp2_with fail
            refine hK.out _ _ ?_ (fun hHeld => ?_)
            · exact HS.out _ HBy6.out
            clear hK K
            try simp only [Act.put, List.setIfInBounds_toArray, List.set_cons_zero, List.set_cons_succ]
            refine wpAnyH_take (i := 6) (oi := { dst := some 37, op := Op.move (Operand.tmp 43), type := 33, pos := _, after := _, guard := none }) (v := ?_) rfl (by kernel_rfl) (by kernel_rfl) (by kernel_rfl) (fun _ _ _ h => h) (Or.inl ⟨by rfl, ?_⟩) (by assumption) ?_
            rotate_left
            · intro wS hSw; (try dsimp only at hSw); go_simp; first | done | with_reducible rfl
            try simp only [Act.put, List.setIfInBounds_toArray, List.set_cons_zero, List.set_cons_succ]
            refine wpAnyH_take (i := 7) (oi := { dst := some 44, op := Op.extract (Operand.tmp 37) 0, type := 24, pos := _, after := _, guard := none }) (v := ?_) rfl (by kernel_rfl) (by kernel_rfl) (by kernel_rfl) (fun _ _ _ h => h) (Or.inl ⟨by rfl, ?_⟩) (by assumption) ?_
            rotate_left
            · intro wS hSw; (try dsimp only at hSw); go_simp; first | done | with_reducible rfl
            try simp only [Act.put, List.setIfInBounds_toArray, List.set_cons_zero, List.set_cons_succ]
            refine wpAnyH_take (i := 8) (oi := { dst := some 45, op := Op.extract (Operand.tmp 37) 1, type := 4, pos := _, after := _, guard := none }) (v := ?_) rfl (by kernel_rfl) (by kernel_rfl) (by kernel_rfl) (fun _ _ _ h => h) (Or.inl ⟨by rfl, ?_⟩) (by assumption) ?_
            rotate_left
            · intro wS hSw; (try dsimp only at hSw); go_simp; first | done | with_reducible rfl
            try simp only [Act.put, List.setIfInBounds_toArray, List.set_cons_zero, List.set_cons_succ]
            refine wpAnyH_ready (rs := [10]) (by kernel_rfl) (by simp) ?_
            refine AllReadyH.cons (o := { dst := none, op := Op.store 24 (Operand.tmp 12) (Operand.tmp 44), type := 0, pos := _, after := _, guard := none }) rfl (fun K hK => ?_) AllReadyH.nil
            obtain ⟨⟨z0, z1, z2⟩, t0, t1, t2⟩ := HTy6.out.tri
            go_simp
            obtain ⟨y7, ey7⟩ : ∃ y, ((y6.setCell ⟨y1.heap.size, 0, none⟩ (.int .i64 x0')).setCell ⟨y1.heap.size, 1, none⟩ (.int .i64 x1')).setCell ⟨y1.heap.size, 2, none⟩ (.int .i64 x2') = y := ⟨_, rfl⟩
            rw [ey7]
            have HTy7 : Hid (Tre y7 y1.heap.size x0' x1' x2') := ey7 ▸ HTy6.out.put x0' x1' x2'
            have HBy7 : Hid (Below W2.heap.size W2 y7) := ey7 ▸ below_put3 HBy6.out LOW.out _ _ _
            clear z0 z1 z2 t0 t1 t2 ey7
            refine hK.out _ _ ?_ (fun hHeld => ?_)
            · exact HS.out _ HBy7.out
            clear hK K
            try simp only [Act.put, List.setIfInBounds_toArray, List.set_cons_zero, List.set_cons_succ]
            refine wpAnyH_take (i := 11) (oi := { dst := some 13, op := Op.assign (Operand.tmp 45), type := 4, pos := _, after := _, guard := none }) (v := ?_) rfl (by kernel_rfl) (by kernel_rfl) (by kernel_rfl) (fun _ _ _ h => h) (Or.inl ⟨by rfl, ?_⟩) (by assumption) ?_
            rotate_left
            · intro wS hSw; (try dsimp only at hSw); go_simp; first | done | with_reducible rfl
            try simp only [Act.put, List.setIfInBounds_toArray, List.set_cons_zero, List.set_cons_succ]
            refine wpAnyH_done (by kernel_rfl) ?_ _
            go_wp2_with fail
            go_meet
            case rel => exact ⟨_, (x0', x1', x2'), rfl, rfl, HV2.out, HTy7.out.1, HBy7.out⟩
        · go_simp
          obtain ⟨y8, ey8⟩ : ∃ y, y0.alloc (.cells #[.int .i64 0, .int .i64 0, .int .i64 0] 24) = y := ⟨_, rfl⟩
          rw [ey8]
          have LOW : Hid (W2.heap.size ≤ y0.heap.size) := HBy0.out.size
          have HBy8 : Hid (Below W2.heap.size W2 y8) := ey8 ▸ HBy0.out.alloc HBy0.out.size _
          have HTy8 : Hid (Tre y8 y0.heap.size 0 0 0) := ey8 ▸ Tre.newO _ 0 0 0
          clear ey8
          refine hK.out _ _ ?_ (fun hHeld => ?_)
          · exact HS.out _ HBy8.out
          clear hK K
          try simp only [Act.put, List.setIfInBounds_toArray, List.set_cons_zero, List.set_cons_succ]
          refine wpAnyH_ready (rs := [4]) (by kernel_rfl) (by simp) ?_
          refine AllReadyH.cons (o := { dst := some 42, op := Op.call { callee := Callee.value (Operand.func 20), args := #[Operand.tmp 41, Operand.const (Value.bool true)], argTypes := #[31, 4] }, type := 31, pos := _, after := _, guard := none }) rfl (fun K hK => ?_) AllReadyH.nil
          go_simp
          refine (put_any N B true _ b0).mono ?_
          rintro e y9 ⟨rfl, hb⟩
          rw [HZS.out]
          unfold ringV
          have HBy9 : Hid (Below W2.heap.size W2 y9) := HBy8.out.trans (hb.mono HBy8.out.size)
          have HTy9 : Hid (Tre y9 y0.heap.size 0 0 0) := HTy8.out.later hb
          clear hb
          go_wp2_with fail
          refine hK.out _ _ ?_ (fun hHeld => ?_)
          · exact HS.out _ HBy9.out
          clear hK K
          try simp only [Act.put, List.setIfInBounds_toArray, List.set_cons_zero, List.set_cons_succ]
          refine wpAnyH_ready (rs := [5]) (by kernel_rfl) (by simp) ?_
          refine AllReadyH.cons (o := { dst := some 43, op := Op.call { callee := Callee.value (Operand.func 9), args := #[Operand.tmp 38, Operand.tmp 39, Operand.tmp 40, Operand.tmp 42], argTypes := #[3, 26, 28, 31] }, type := 33, pos := _, after := _, guard := none }) rfl (fun K hK => ?_) AllReadyH.nil
          go_simp
          refine (HO2.out _).mono ?_
          rintro e y10 ⟨⟨x0', x1', x2'⟩, rfl, hv2, hb⟩
          have HV2 : Hid (OfV14 zs.length (val zs) em ek id ⟨o, n, r, u, b, c, d, x⟩ (x0', x1', x2')) := hv2
          clear hv2
          have HBy10 : Hid (Below W2.heap.size W2 y10) := HBy9.out.trans (hb.mono HBy9.out.size)
          have HTy10 : Hid (Tre y10 y0.heap.size 0 0 0) := HTy9.out.later hb
          clear hb
          go_wp2_with fail
          refine hK.out _ _ ?_ (fun hHeld => ?_)
          · exact HS.out _ HBy10.out
          clear hK K
          try simp only [Act.put, List.setIfInBounds_toArray, List.set_cons_zero, List.set_cons_succ]
          refine wpAnyH_take (i := 6) (oi := { dst := some 37, op := Op.move (Operand.tmp 43), type := 33, pos := _, after := _, guard := none }) (v := ?_) rfl (by kernel_rfl) (by kernel_rfl) (by kernel_rfl) (fun _ _ _ h => h) (Or.inl ⟨by rfl, ?_⟩) (by assumption) ?_
          rotate_left
          · intro wS hSw; (try dsimp only at hSw); go_simp; first | done | with_reducible rfl
          try simp only [Act.put, List.setIfInBounds_toArray, List.set_cons_zero, List.set_cons_succ]
          refine wpAnyH_take (i := 7) (oi := { dst := some 44, op := Op.extract (Operand.tmp 37) 0, type := 24, pos := _, after := _, guard := none }) (v := ?_) rfl (by kernel_rfl) (by kernel_rfl) (by kernel_rfl) (fun _ _ _ h => h) (Or.inl ⟨by rfl, ?_⟩) (by assumption) ?_
          rotate_left
          · intro wS hSw; (try dsimp only at hSw); go_simp; first | done | with_reducible rfl
          try simp only [Act.put, List.setIfInBounds_toArray, List.set_cons_zero, List.set_cons_succ]
          refine wpAnyH_take (i := 8) (oi := { dst := some 45, op := Op.extract (Operand.tmp 37) 1, type := 4, pos := _, after := _, guard := none }) (v := ?_) rfl (by kernel_rfl) (by kernel_rfl) (by kernel_rfl) (fun _ _ _ h => h) (Or.inl ⟨by rfl, ?_⟩) (by assumption) ?_
          rotate_left
          · intro wS hSw; (try dsimp only at hSw); go_simp; first | done | with_reducible rfl
          try simp only [Act.put, List.setIfInBounds_toArray, List.set_cons_zero, List.set_cons_succ]
          refine wpAnyH_ready (rs := [10]) (by kernel_rfl) (by simp) ?_
          refine AllReadyH.cons (o := { dst := none, op := Op.store 24 (Operand.tmp 12) (Operand.tmp 44), type := 0, pos := _, after := _, guard := none }) rfl (fun K hK => ?_) AllReadyH.nil
          obtain ⟨⟨z0, z1, z2⟩, t0, t1, t2⟩ := HTy10.out.tri
          go_simp
          obtain ⟨y11, ey11⟩ : ∃ y, ((y10.setCell ⟨y0.heap.size, 0, none⟩ (.int .i64 x0')).setCell ⟨y0.heap.size, 1, none⟩ (.int .i64 x1')).setCell ⟨y0.heap.size, 2, none⟩ (.int .i64 x2') = y := ⟨_, rfl⟩
          rw [ey11]
          have HTy11 : Hid (Tre y11 y0.heap.size x0' x1' x2') := ey11 ▸ HTy10.out.put x0' x1' x2'
          have HBy11 : Hid (Below W2.heap.size W2 y11) := ey11 ▸ below_put3 HBy10.out LOW.out _ _ _
          clear z0 z1 z2 t0 t1 t2 ey11
          refine hK.out _ _ ?_ (fun hHeld => ?_)
          · exact HS.out _ HBy11.out
          clear hK K
          try simp only [Act.put, List.setIfInBounds_toArray, List.set_cons_zero, List.set_cons_succ]
          refine wpAnyH_take (i := 11) (oi := { dst := some 13, op := Op.assign (Operand.tmp 45), type := 4, pos := _, after := _, guard := none }) (v := ?_) rfl (by kernel_rfl) (by kernel_rfl) (by kernel_rfl) (fun _ _ _ h => h) (Or.inl ⟨by rfl, ?_⟩) (by assumption) ?_
          rotate_left
          · intro wS hSw; (try dsimp only at hSw); go_simp; first | done | with_reducible rfl
          try simp only [Act.put, List.setIfInBounds_toArray, List.set_cons_zero, List.set_cons_succ]
          refine wpAnyH_done (by kernel_rfl) ?_ _
          go_wp2_with fail
          go_meet
          case rel => exact ⟨_, (x0', x1', x2'), rfl, rfl, HV2.out, HTy11.out.1, HBy11.out⟩
      case rest =>
        obtain ⟨p, ⟨z0, z1, z2⟩, rfl, rfl, hv2, ht2, hb2⟩ := hcut
        have HV2 : Hid (OfV14 zs.length (val zs) em ek id ⟨o, n, r, u, b, c, d, x⟩ (z0, z1, z2)) := hv2
        have HB5 : Hid (Below W.heap.size W wc) := HB4.out.trans (hb2.mono HB4.out.size)
        have s6 := ht2.lt
        obtain ⟨e0, e1, e2⟩ := ht2
        have ht4 := HT4.out.later hb2
        have s7 := ht4.lt
        obtain ⟨d0, d1, d2⟩ := ht4
        clear hv2 hb2
        obtain ⟨s0, s1, s2, s3, s4, s5, j0, j1, j2, j3, j4, j5, j6, j7, r0, r1⟩ := HC.out _ (HB5.out)
        have HQ := HV.out.1
        have HQ2 := HV2.out.1
        rw [HZ.out.1] at HQ HQ2
        cases o with
        | false =>
          go_wp2; go_ret; exact ⟨rfl, HE.out.trans (HB5.out.mono HE.out.size)⟩
        | true =>
          cases b with
          | true =>
            go_wp2; go_ret; exact ⟨rfl, HE.out.trans (HB5.out.mono HE.out.size)⟩
          | false =>
            obtain ⟨hf1, hu1, hi1⟩ := HQ rfl
            obtain ⟨hf2, hu2, hi2⟩ := HQ2 rfl
            rw [← HZS.out] at hf2
            have hle := far_le hf1 hf2 HZ.out.2 HM.out
            simp only at hu1 hi1 hu2 hi2 hle
            clear HQ HQ2 hf1 hf2
            obtain ⟨g1, g2, g3⟩ := hle
            subst hu1 hi1 hu2
            go_wp2; go_ret; exact ⟨rfl, HE.out.trans (HB5.out.mono HE.out.size)⟩
end Go.Proofs.Ytkaobjcghmigmaa
