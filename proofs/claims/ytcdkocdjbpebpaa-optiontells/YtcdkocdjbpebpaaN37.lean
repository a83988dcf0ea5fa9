/- OptionTells: any two stand to one another, any are in order, have a first one, and any job is one, or not, as the document says. -/
import Derived.Test.YtcdkocdjbpebpaaN36
import Derived.Test.YtcdkocdjbpebpaaY2
namespace Go.Proofs.Ytcdkocdjbpebpaa
open Go.RowKit

theorem srt_same14 {gs f : Nat → Int × Int × Int} {n : Nat} {S : List (Int × Int × Int)} (hcs : ∀ x, cntO gs n x = cntO f n x) (hss : SrtL gs n) (h1 : SrtS S) (h2 : S.Perm (lstO f n)) : ∀ i, i < n → gs i = S.getD i (0, 0, 0) := by
  have hl : S.length = n := (Perm.len14 h2)
  refine sorted_one hss (fun i j hij hj => ?_) (fun x => ?_)
  · rw [getS (by omega), getS (by omega)]
    exact (List.pairwise_iff_getElem.1 h1) i j (by omega) (by omega) hij
  · rw [hcs, ← lstO_count, ← lstO_count, lst_all hl, h2.count_eq]
theorem fst_same14 {f : Nat → Int × Int × Int} {n : Nat} {r r' : Int} (h : (n = 0 ∧ r = -1) ∨ ∃ k : Nat, r = k ∧ IsFst f n k) (h' : (n = 0 ∧ r' = -1) ∨ ∃ k : Nat, r' = k ∧ IsFst f n k) : r = r' := by
  rcases h with ⟨h1, h2⟩ | ⟨k, h1, h2⟩ <;> rcases h' with ⟨h3, h4⟩ | ⟨k', h3, h4⟩
  · rw [h2, h4]
  · have := h4.1; omega
  · have := h2.1; omega
  · rw [h1, h3, h2.unique h4]
theorem below_a5 (w : World) (p q r s t : Obj) : Below w.heap.size w (((((w.alloc p).alloc q).alloc r).alloc s).alloc t) := (((below_a3 w p q r).alloc (by simp; omega) _).alloc (by simp; omega) _)
theorem of_guard {c d x : Int} (h1 : ¬ (1099511627776 : Int) < c) (h2 : ¬ c < -1099511627776) (h3 : ¬ (1099511627776 : Int) < d) (h4 : ¬ d < -1099511627776) (h5 : ¬ (1099511627776 : Int) < x) (h6 : ¬ x < -1099511627776) : IntKind.i64.wrap (c - x) = c - x ∧ IntKind.i64.wrap (d - x) = d - x := by
  rw [IntKind.wrap_i64, IntKind.wrap_i64]; omega

set_option maxHeartbeats 8000000 in
set_option maxRecDepth 100000 in
theorem law_otells (n : Nat) (f : Nat → Int × Int × Int) (v : Value) (a0 a1 a2 b0 b1 b2 id ec et ex em ek ee : Int) (o : Bool) (jn r u : Int) (b : Bool) (c d x N B : Int) (w : World) (hl : Ops w v n f) (hf : ∀ i, i < n → wfO (f i)) (hB0 : 0 ≤ B) :
    Calls Try.prog 3 #[v, .agg #[.int .i64 a0, .int .i64 a1, .int .i64 a2], .agg #[.int .i64 b0, .int .i64 b1, .int .i64 b2], .int .i64 id, .agg #[.int .i64 ec, .int .i64 et, .int .i64 ex, .int .i64 em, .int .i64 ek, .int .i64 ee], .agg #[.bool o, .int .i64 jn, .int .i64 r, .int .i64 u, .bool b, .int .i64 c, .int .i64 d, .int .i64 x], .agg #[.int .i64 N, .int .u64 B]] w fun e w' => e = .returned (.bool true) ∧ Below w.heap.size w w' := by
  have HW0 : Hid (Ops w v n f) := hl
  have HWF : Hid (∀ i, i < n → wfO (f i)) := hf
  have HBB : Hid (0 ≤ B) := hB0
  have HE : Hid (Below w.heap.size w (((((w.alloc (.cells #[.int .i64 a0, .int .i64 a1, .int .i64 a2] 24)).alloc (.cells #[.int .i64 b0, .int .i64 b1, .int .i64 b2] 24)).alloc (.cells #[.int .i64 ec, .int .i64 et, .int .i64 ex, .int .i64 em, .int .i64 ek, .int .i64 ee] 26)).alloc (.cells #[.bool o, .int .i64 jn, .int .i64 r, .int .i64 u, .bool b, .int .i64 c, .int .i64 d, .int .i64 x] 28)).alloc (.cells #[.int .i64 N, .int .u64 B] 31))) := below_a5 _ _ _ _ _ _
  obtain ⟨ad, cap, rfl, l1, l2, l0, l3⟩ := hl
  clear l0 l3 hf hB0
  have hA : Thr (((((w.alloc (.cells #[.int .i64 a0, .int .i64 a1, .int .i64 a2] 24)).alloc (.cells #[.int .i64 b0, .int .i64 b1, .int .i64 b2] 24)).alloc (.cells #[.int .i64 ec, .int .i64 et, .int .i64 ex, .int .i64 em, .int .i64 ek, .int .i64 ee] 26)).alloc (.cells #[.bool o, .int .i64 jn, .int .i64 r, .int .i64 u, .bool b, .int .i64 c, .int .i64 d, .int .i64 x] 28)).alloc (.cells #[.int .i64 N, .int .u64 B] 31)) w.heap.size a0 a1 a2 := (Thr.new w a0 a1 a2 24).later ((below_a3 _ _ _ _).alloc (by simp <;> omega) _)
  have hB : Thr (((((w.alloc (.cells #[.int .i64 a0, .int .i64 a1, .int .i64 a2] 24)).alloc (.cells #[.int .i64 b0, .int .i64 b1, .int .i64 b2] 24)).alloc (.cells #[.int .i64 ec, .int .i64 et, .int .i64 ex, .int .i64 em, .int .i64 ek, .int .i64 ee] 26)).alloc (.cells #[.bool o, .int .i64 jn, .int .i64 r, .int .i64 u, .bool b, .int .i64 c, .int .i64 d, .int .i64 x] 28)).alloc (.cells #[.int .i64 N, .int .u64 B] 31)) (w.heap.size + 1) b0 b1 b2 := by have := (Thr.new (w.alloc (.cells #[.int .i64 a0, .int .i64 a1, .int .i64 a2] 24)) b0 b1 b2 24).later (below_a3 _ (.cells #[.int .i64 ec, .int .i64 et, .int .i64 ex, .int .i64 em, .int .i64 ek, .int .i64 ee] 26) (.cells #[.bool o, .int .i64 jn, .int .i64 r, .int .i64 u, .bool b, .int .i64 c, .int .i64 d, .int .i64 x] 28) (.cells #[.int .i64 N, .int .u64 B] 31)); simp only [World.size_alloc] at this; exact this
  have hS : Six (((((w.alloc (.cells #[.int .i64 a0, .int .i64 a1, .int .i64 a2] 24)).alloc (.cells #[.int .i64 b0, .int .i64 b1, .int .i64 b2] 24)).alloc (.cells #[.int .i64 ec, .int .i64 et, .int .i64 ex, .int .i64 em, .int .i64 ek, .int .i64 ee] 26)).alloc (.cells #[.bool o, .int .i64 jn, .int .i64 r, .int .i64 u, .bool b, .int .i64 c, .int .i64 d, .int .i64 x] 28)).alloc (.cells #[.int .i64 N, .int .u64 B] 31)) (w.heap.size + 2) (Sp.at ⟨ec, et, ex, em, ek, ee⟩) := by have := (Six.new ((w.alloc (.cells #[.int .i64 a0, .int .i64 a1, .int .i64 a2] 24)).alloc (.cells #[.int .i64 b0, .int .i64 b1, .int .i64 b2] 24)) ⟨ec, et, ex, em, ek, ee⟩).later (below_a2 _ (.cells #[.bool o, .int .i64 jn, .int .i64 r, .int .i64 u, .bool b, .int .i64 c, .int .i64 d, .int .i64 x] 28) (.cells #[.int .i64 N, .int .u64 B] 31)); simp only [World.size_alloc] at this; exact this
  have hJ : Eit (((((w.alloc (.cells #[.int .i64 a0, .int .i64 a1, .int .i64 a2] 24)).alloc (.cells #[.int .i64 b0, .int .i64 b1, .int .i64 b2] 24)).alloc (.cells #[.int .i64 ec, .int .i64 et, .int .i64 ex, .int .i64 em, .int .i64 ek, .int .i64 ee] 26)).alloc (.cells #[.bool o, .int .i64 jn, .int .i64 r, .int .i64 u, .bool b, .int .i64 c, .int .i64 d, .int .i64 x] 28)).alloc (.cells #[.int .i64 N, .int .u64 B] 31)) (w.heap.size + 3) ⟨o, jn, r, u, b, c, d, x⟩ := by have := (Eit.new (((w.alloc (.cells #[.int .i64 a0, .int .i64 a1, .int .i64 a2] 24)).alloc (.cells #[.int .i64 b0, .int .i64 b1, .int .i64 b2] 24)).alloc (.cells #[.int .i64 ec, .int .i64 et, .int .i64 ex, .int .i64 em, .int .i64 ek, .int .i64 ee] 26)) ⟨o, jn, r, u, b, c, d, x⟩).later (below_a1 _ (.cells #[.int .i64 N, .int .u64 B] 31)); simp only [World.size_alloc] at this; exact this
  have hR0 := (fun X : World => (by simp : (X.alloc (.cells #[.int .i64 N, .int .u64 B] 31)).cell? ⟨X.heap.size, 0, none⟩ = some (.int .i64 N))) ((((w.alloc (.cells #[.int .i64 a0, .int .i64 a1, .int .i64 a2] 24)).alloc (.cells #[.int .i64 b0, .int .i64 b1, .int .i64 b2] 24)).alloc (.cells #[.int .i64 ec, .int .i64 et, .int .i64 ex, .int .i64 em, .int .i64 ek, .int .i64 ee] 26)).alloc (.cells #[.bool o, .int .i64 jn, .int .i64 r, .int .i64 u, .bool b, .int .i64 c, .int .i64 d, .int .i64 x] 28))
  have hR1 := (fun X : World => (by simp : (X.alloc (.cells #[.int .i64 N, .int .u64 B] 31)).cell? ⟨X.heap.size, 1, none⟩ = some (.int .u64 B))) ((((w.alloc (.cells #[.int .i64 a0, .int .i64 a1, .int .i64 a2] 24)).alloc (.cells #[.int .i64 b0, .int .i64 b1, .int .i64 b2] 24)).alloc (.cells #[.int .i64 ec, .int .i64 et, .int .i64 ex, .int .i64 em, .int .i64 ek, .int .i64 ee] 26)).alloc (.cells #[.bool o, .int .i64 jn, .int .i64 r, .int .i64 u, .bool b, .int .i64 c, .int .i64 d, .int .i64 x] 28))
  simp only [World.size_alloc] at hR0 hR1
  go_enter Try.func3, Try.ntmps3
  go_wp2_with fail
  generalize (((((w.alloc (.cells #[.int .i64 a0, .int .i64 a1, .int .i64 a2] 24)).alloc (.cells #[.int .i64 b0, .int .i64 b1, .int .i64 b2] 24)).alloc (.cells #[.int .i64 ec, .int .i64 et, .int .i64 ex, .int .i64 em, .int .i64 ek, .int .i64 ee] 26)).alloc (.cells #[.bool o, .int .i64 jn, .int .i64 r, .int .i64 u, .bool b, .int .i64 c, .int .i64 d, .int .i64 x] 28)).alloc (.cells #[.int .i64 N, .int .u64 B] 31)) = W at *
  have HAB : Hid (Thr W w.heap.size a0 a1 a2 ∧ Thr W (w.heap.size + 1) b0 b1 b2) := ⟨hA, hB⟩
  have HC : Hid (∀ w', Below W.heap.size W w' → w'.cell? ⟨w.heap.size + 2, 0, none⟩ = some (.int .i64 ec) ∧ w'.cell? ⟨w.heap.size + 2, 1, none⟩ = some (.int .i64 et) ∧ w'.cell? ⟨w.heap.size + 2, 2, none⟩ = some (.int .i64 ex) ∧ w'.cell? ⟨w.heap.size + 2, 3, none⟩ = some (.int .i64 em) ∧ w'.cell? ⟨w.heap.size + 2, 4, none⟩ = some (.int .i64 ek) ∧ w'.cell? ⟨w.heap.size + 2, 5, none⟩ = some (.int .i64 ee) ∧ w'.cell? ⟨w.heap.size + 3, 0, none⟩ = some (.bool o) ∧ w'.cell? ⟨w.heap.size + 3, 1, none⟩ = some (.int .i64 jn) ∧ w'.cell? ⟨w.heap.size + 3, 2, none⟩ = some (.int .i64 r) ∧ w'.cell? ⟨w.heap.size + 3, 3, none⟩ = some (.int .i64 u) ∧ w'.cell? ⟨w.heap.size + 3, 4, none⟩ = some (.bool b) ∧ w'.cell? ⟨w.heap.size + 3, 5, none⟩ = some (.int .i64 c) ∧ w'.cell? ⟨w.heap.size + 3, 6, none⟩ = some (.int .i64 d) ∧ w'.cell? ⟨w.heap.size + 3, 7, none⟩ = some (.int .i64 x) ∧ w'.cell? ⟨w.heap.size + 4, 0, none⟩ = some (.int .i64 N) ∧ w'.cell? ⟨w.heap.size + 4, 1, none⟩ = some (.int .u64 B)) := by
    intro w' hb
    obtain ⟨s0, s1, s2, s3, s4, s5, _⟩ := (hS.later hb).sp
    obtain ⟨j0, j1, j2, j3, j4, j5, j6, j7, _⟩ := (hJ.later hb).op
    exact ⟨s0, s1, s2, s3, s4, s5, j0, j1, j2, j3, j4, j5, j6, j7, cell_later hb hR0, cell_later hb hR1⟩
  clear hS hJ hR0 hR1 hA hB
  refine (awake14_any _).mono ?_
  rintro e w1 ⟨rfl, hb1⟩
  have HB1 : Hid (Below W.heap.size W w1) := hb1
  clear hb1
  obtain ⟨s0, s1, s2, s3, s4, s5, j0, j1, j2, j3, j4, j5, j6, j7, r0, r1⟩ := HC.out _ (HB1.out)
  by_cases c0 : (100 : Int) < n
  · go_wp2; go_ret; exact ⟨rfl, HE.out.trans (HB1.out.mono HE.out.size)⟩
  by_cases c1 : (1099511627776 : Int) < c
  · go_wp2; go_ret; exact ⟨rfl, HE.out.trans (HB1.out.mono HE.out.size)⟩
  by_cases c2 : c < (-1099511627776 : Int)
  · go_wp2; go_ret; exact ⟨rfl, HE.out.trans (HB1.out.mono HE.out.size)⟩
  by_cases c3 : (1099511627776 : Int) < d
  · go_wp2; go_ret; exact ⟨rfl, HE.out.trans (HB1.out.mono HE.out.size)⟩
  by_cases c4 : d < (-1099511627776 : Int)
  · go_wp2; go_ret; exact ⟨rfl, HE.out.trans (HB1.out.mono HE.out.size)⟩
  by_cases c5 : (1099511627776 : Int) < x
  · go_wp2; go_ret; exact ⟨rfl, HE.out.trans (HB1.out.mono HE.out.size)⟩
  by_cases c6 : x < (-1099511627776 : Int)
  · go_wp2; go_ret; exact ⟨rfl, HE.out.trans (HB1.out.mono HE.out.size)⟩
  by_cases c7 : (1000 : Int) < ek
  · go_wp2; go_ret; exact ⟨rfl, HE.out.trans (HB1.out.mono HE.out.size)⟩
  have HWR : Hid (IntKind.i64.wrap (c - x) = c - x ∧ IntKind.i64.wrap (d - x) = d - x) := of_guard c1 c2 c3 c4 c5 c6
  have hn : n ≤ 1000 := by omega
  obtain ⟨z, hz⟩ : ∃ z, ofB14 ⟨o, jn, r, u, b, c, d, x⟩ = z := ⟨_, rfl⟩
  have HZ : Hid (ofB14 ⟨o, jn, r, u, b, c, d, x⟩ = z) := hz
  clear hz
  go_wp2_with fail
  refine (of14_val id ec et ex em ek ee o jn r u b c d x N B _ HWR.out.1 HWR.out.2 HBB.out).mono ?_
  rintro e w2 ⟨⟨y0, y1, y2⟩, rfl, hv, hb⟩
  rw [HZ.out]
  have HV : Hid (OfV14 N B em ek id ⟨o, jn, r, u, b, c, d, x⟩ (y0, y1, y2)) := hv
  have HB2 : Hid (Below W.heap.size W (w2.alloc (.cells #[.int .i64 y0, .int .i64 y1, .int .i64 y2] 24))) := (HB1.out.trans (hb.mono HB1.out.size)).alloc (HB1.out.trans (hb.mono HB1.out.size)).size _
  have HT2 : Hid (Thr (w2.alloc (.cells #[.int .i64 y0, .int .i64 y1, .int .i64 y2] 24)) w2.heap.size y0 y1 y2) := Thr.new _ _ _ _ _
  clear hb hv s0 s1 s2 s3 s4 s5 j0 j1 j2 j3 j4 j5 j6 j7 r0 r1 c0 c1 c2 c3 c4 c5 c6 c7
  obtain ⟨s0, s1, s2, s3, s4, s5, j0, j1, j2, j3, j4, j5, j6, j7, r0, r1⟩ := HC.out _ (HB2.out)
  go_upto_region 5 with fail
  generalize w2.alloc (.cells #[.int .i64 y0, .int .i64 y1, .int .i64 y2] 24) = W2 at *
  generalize w2.heap.size = p at *
  go_wp2_with fail
  refine (rof14_val id ec et ex em ek ee o jn r u b c d x N B _ HWR.out.1 HWR.out.2 HBB.out).mono ?_
  rintro e w3 ⟨⟨z0, z1, z2⟩, rfl, hv, hb⟩
  rw [HZ.out]
  have hyz := HV.out.unique hv
  simp only [Prod.mk.injEq] at hyz
  obtain ⟨rfl, rfl, rfl⟩ := hyz
  have HB3 : Hid (Below W2.heap.size W2 (w3.alloc (.cells #[.int .i64 y0, .int .i64 y1, .int .i64 y2] 24))) := hb.alloc hb.size _
  have HT3 : Hid (Thr (w3.alloc (.cells #[.int .i64 y0, .int .i64 y1, .int .i64 y2] 24)) w3.heap.size y0 y1 y2) := Thr.new _ _ _ _ _
  clear hb hv s0 s1 s2 s3 s4 s5 j0 j1 j2 j3 j4 j5 j6 j7 r0 r1
  go_wp2_with fail
  generalize w3.alloc (.cells #[.int .i64 y0, .int .i64 y1, .int .i64 y2] 24) = W4 at *
  generalize w3.heap.size = q at *
  have HB4 : Hid (Below W.heap.size W W4) := HB2.out.trans (HB3.out.mono HB2.out.size)
  have MK : Hid (∀ w', Below W4.heap.size W4 w' → (w'.cell? ⟨w.heap.size, 0, none⟩ = some (.int .i64 a0) ∧ w'.cell? ⟨w.heap.size, 1, none⟩ = some (.int .i64 a1) ∧ w'.cell? ⟨w.heap.size, 2, none⟩ = some (.int .i64 a2) ∧ w'.cell? ⟨w.heap.size + 1, 0, none⟩ = some (.int .i64 b0) ∧ w'.cell? ⟨w.heap.size + 1, 1, none⟩ = some (.int .i64 b1) ∧ w'.cell? ⟨w.heap.size + 1, 2, none⟩ = some (.int .i64 b2) ∧ w'.cell? ⟨p, 0, none⟩ = some (.int .i64 y0) ∧ w'.cell? ⟨p, 1, none⟩ = some (.int .i64 y1) ∧ w'.cell? ⟨p, 2, none⟩ = some (.int .i64 y2) ∧ w'.cell? ⟨q, 0, none⟩ = some (.int .i64 y0) ∧ w'.cell? ⟨q, 1, none⟩ = some (.int .i64 y1) ∧ w'.cell? ⟨q, 2, none⟩ = some (.int .i64 y2)) ∧ Below W4.heap.size W4 w') := fun w' hb => by
    have hA := (HAB.out.1.later HB4.out).later hb
    have hB := (HAB.out.2.later HB4.out).later hb
    have hp := (HT2.out.later HB3.out).later hb
    have hq := HT3.out.later hb
    exact ⟨⟨hA.1, hA.2.1, hA.2.2, hB.1, hB.2.1, hB.2.2, hp.1, hp.2.1, hp.2.2, hq.1, hq.2.1, hq.2.2⟩, hb⟩
  have HO : Hid (∀ w', Below W4.heap.size W4 w' → Ops w' (.slice ad n cap) n f) := fun w' hb => ((HW0.out.later HE.out).later HB4.out).later hb
  obtain ⟨l, hl⟩ : ∃ l, ltO (a0, a1, a2) (b0, b1, b2) = l := ⟨_, rfl⟩
  have HL : Hid (ltO (a0, a1, a2) (b0, b1, b2) = l) := hl
  clear hl
  have hE : ∀ w, (binOp .eql 24 (.agg #[.int .i64 y0, .int .i64 y1, .int .i64 y2]) (.agg #[.int .i64 y0, .int .i64 y1, .int .i64 y2])).run Try.prog w = .ok (.bool true) w := fun w => (op_eql y0 y1 y2 y0 y1 y2 w).trans (by rw [eqO_self])
  clear HC HT2 HT3 HAB HV HW0 HB1 HB2 HB3 HZ HWR HBB
  have HBF : Hid (∀ w', Below W4.heap.size W4 w' → Below w.heap.size w w') := fun w' hb => HE.out.trans ((HB4.out.trans (hb.mono HB4.out.size)).mono HE.out.size)
  clear HE HB4
  go_region_held3 (fun w' => (w'.cell? ⟨w.heap.size, 0, none⟩ = some (.int .i64 a0) ∧ w'.cell? ⟨w.heap.size, 1, none⟩ = some (.int .i64 a1) ∧ w'.cell? ⟨w.heap.size, 2, none⟩ = some (.int .i64 a2) ∧ w'.cell? ⟨w.heap.size + 1, 0, none⟩ = some (.int .i64 b0) ∧ w'.cell? ⟨w.heap.size + 1, 1, none⟩ = some (.int .i64 b1) ∧ w'.cell? ⟨w.heap.size + 1, 2, none⟩ = some (.int .i64 b2) ∧ w'.cell? ⟨p, 0, none⟩ = some (.int .i64 y0) ∧ w'.cell? ⟨p, 1, none⟩ = some (.int .i64 y1) ∧ w'.cell? ⟨p, 2, none⟩ = some (.int .i64 y2) ∧ w'.cell? ⟨q, 0, none⟩ = some (.int .i64 y0) ∧ w'.cell? ⟨q, 1, none⟩ = some (.int .i64 y1) ∧ w'.cell? ⟨q, 2, none⟩ = some (.int .i64 y2)) ∧ Below W4.heap.size W4 w')
    (first | exact MK.out _ (bstep (by assumption) (sBel (by assumption))) | exact MK.out _ (Below.refl _ _).drew)
    (first
      | (go_at_call 11; refine (less14_any a0 a1 a2 b0 b1 b2 _).mono ?_; rintro e w5 ⟨rfl, hb5⟩; rw [HL.out])
      | (go_at_call 12; refine (rless14_any a0 a1 a2 b0 b1 b2 _).mono ?_; rintro e w6 ⟨rfl, hb6⟩; rw [HL.out])
      | (go_at_call 14; refine (sort14_any n f (.slice ad n cap) _ (HO.out _ (sBel (by assumption))) HWF.out hn).mono ?_; rintro e w7 ⟨vs, gs, rfl, hos, hcs, hss, hb7⟩; have HSS : Hid (Ops w7 vs n gs ∧ (∀ x, cntO gs n x = cntO f n x) ∧ SrtL gs n) := ⟨hos, hcs, hss⟩; clear hos hcs hss)
      | (go_at_call 15; refine (rsort14_any n f (.slice ad n cap) _ (HO.out _ (sBel (by assumption))) hn).mono ?_; rintro e w8 ⟨vr, S, rfl, hor, h1, h2, hb8⟩; have HS8 : Hid (Ops w8 vs n gs) := HSS.out.1.later hb8; have HR8 : Hid (Ops w8 vr n (fun i => S.getD i (0, 0, 0))) := (by have hh := hor.ops; rw [(Perm.len14 h2)] at hh; exact hh); have HQ8 : Hid (∀ i, i < n → gs i = S.getD i (0, 0, 0)) := srt_same14 HSS.out.2.1 HSS.out.2.2 h1 h2; clear hor h1 h2)
      | (go_at_call 13; refine (same14_any n gs (fun i => S.getD i (0, 0, 0)) vs vr _ HS8.out HR8.out HQ8.out hn).mono ?_; rintro e w9 ⟨rfl, hb9⟩)
      | (go_at_call 16; refine (first14_any n f (.slice ad n cap) _ (HO.out _ (sBel (by assumption))) hn).mono ?_; rintro e w10 ⟨k1, rfl, hk1, hb10⟩; have HK1 : Hid ((n = 0 ∧ k1 = -1) ∨ ∃ k : Nat, k1 = k ∧ IsFst f n k) := hk1; clear hk1)
      | (go_at_call 17; refine (rfirst14_any n f (.slice ad n cap) _ (HO.out _ (sBel (by assumption))) hn).mono ?_; rintro e w11 ⟨k2, rfl, hk2, hb11⟩; obtain rfl := fst_same14 HK1.out hk2; clear hk2))
  all_goals
    go_wp2
    go_ret
    exact ⟨by simp, HBF.out _ (sBel (by assumption))⟩
end Go.Proofs.Ytcdkocdjbpebpaa
