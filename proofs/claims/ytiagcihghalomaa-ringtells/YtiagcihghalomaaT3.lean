/- Walks of the document's own Of, Put and Good. -/
import Derived.Test.YtiagcihghalomaaT2
namespace Go.Proofs.Ytiagcihghalomaa
open Go.RowKit

theorem cnt_rev (f : Nat → Bool) (n : Nat) : cnt f 0 n = cnt (fun i => f (n - 1 - i)) 0 n := by
  induction n with
  | zero => rfl
  | succ n ih =>
    rw [cnt_head (fun i => f (n + 1 - 1 - i)) 0 n, cnt, ih]
    simp only [Nat.zero_add, Nat.add_sub_cancel, Nat.sub_zero]
    rw [Nat.add_comm]
    congr 1
    refine cnt_congr fun i hi => ?_
    simp only [Nat.zero_add]
    congr 1; omega

theorem cnt_under (f : Nat → Bool) (n k : Nat) : cnt (fun i => f i && decide (i < n)) 0 k = cnt f 0 (min n k) := by
  induction k with
  | zero => simp [cnt]
  | succ k ih =>
    rw [cnt, ih]
    rcases Nat.lt_or_ge k n with h | h
    · rw [show min n (k + 1) = min n k + 1 by omega, cnt, show min n k = k by omega]; simp [h]
    · rw [show min n (k + 1) = min n k by omega]; simp; intro _; omega

theorem lastG_eq (ls : List Bool) (n : Nat) : lastG ls n ls.length = cnt (gd ls.reverse) 0 (min n ls.length) := by
  unfold lastG
  rw [cnt_rev, ← cnt_under]
  refine cnt_congr fun i hi => ?_
  simp only [Nat.zero_add]
  have e : ls.getD (ls.length - 1 - i) false = gd ls.reverse i := by
    unfold gd
    rw [List.getD, List.getD, List.getElem?_reverse hi, List.getElem?_eq_getElem (by omega)]; rfl
  rw [e]
  congr 1
  by_cases c : i < n
  · rw [decide_eq_true c, decide_eq_true (by omega)]
  · rw [decide_eq_false c, decide_eq_false (by omega)]

set_option maxHeartbeats 1000000 in
set_option maxRecDepth 100000 in
theorem refGood_any (N B n : Int) (w : World) (b0 : 0 ≤ B) :
    Calls Try.prog 19 #[.agg #[.int .i64 N, .int .u64 B], .int .i64 n] w fun e w' => e = .returned (.int .i64 (goodR (ringOf N B) n)) ∧ Below w.heap.size w w' := by
  have hl := ringOf_len N B
  rcases (show n < 0 ∨ 0 ≤ n ∧ n ≤ 60 ∨ 60 < n by omega) with c | ⟨c1, c2⟩ | c
  · have HG : Hid (goodR (ringOf N B) n = 0) := by
      show _ = _; unfold goodR cntR; rw [if_neg (by omega), show (n - ((0 : Nat) : Int)).toNat = 0 by omega]; rfl
    go_enter Try.func19, Try.ntmps19
    go_wp2
    go_ret
    exact ⟨ret_i (by rw [HG.out]; rfl), (Below.refl _ _).alloc (by simp) _⟩
  · obtain ⟨k, rfl⟩ := Int.eq_ofNat_of_zero_le c1
    have HG : Hid (lastG (ringOf N B).reverse k (ringOf N B).reverse.length = goodR (ringOf N B) k) := by
      show _ = _; rw [lastG_eq, goodR_nat, List.reverse_reverse, List.length_reverse]
    go_enter Try.func19, Try.ntmps19
    go_wp2_with fail
    refine (refList_any N B _ b0).mono ?_
    rintro e w1 ⟨v, rfl, hown, hb1⟩
    have hrow := Row.own hown (by simp)
    have hb : Below w.heap.size w w1 := ((Below.refl _ _).alloc (by simp) _).trans (hb1.mono (by simp))
    clear hb1 hown
    go_wp2_with fail
    refine (refCount3_any _ _ _ _ hrow (by simp; omega) (by omega) (by omega)).mono ?_
    rintro e w2 ⟨rfl, rfl⟩
    rw [HG.out]
    go_wp2
    go_ret
    exact ⟨rfl, hb⟩
  · have HG : Hid (lastG (ringOf N B).reverse 60 (ringOf N B).reverse.length = goodR (ringOf N B) n) := by
      obtain ⟨k, rfl⟩ := Int.eq_ofNat_of_zero_le (show 0 ≤ n by omega)
      show _ = _
      have := lastG_eq (ringOf N B).reverse 60
      rw [goodR_nat]
      rw [List.reverse_reverse, List.length_reverse, show min 60 (ringOf N B).length = min k (ringOf N B).length by omega] at this
      rw [List.length_reverse]; exact this
    go_enter Try.func19, Try.ntmps19
    go_wp2_with fail
    refine (refList_any N B _ b0).mono ?_
    rintro e w1 ⟨v, rfl, hown, hb1⟩
    have hrow := Row.own hown (by simp)
    have hb : Below w.heap.size w w1 := ((Below.refl _ _).alloc (by simp) _).trans (hb1.mono (by simp))
    clear hb1 hown
    go_wp2_with fail
    refine (refCount3_any _ _ _ _ hrow (by simp; omega) (by omega) (by omega)).mono ?_
    rintro e w2 ⟨rfl, rfl⟩
    rw [HG.out]
    go_wp2
    go_ret
    exact ⟨rfl, hb⟩

theorem Two.put1 {w : World} {b : Nat} {u v : Value} (h : Two w b u v) (x y : Value) (e : x = y) : Two (w.setCell ⟨b, 1, none⟩ x) b u y := by
  subst e
  obtain ⟨h0, h1, h2, h3⟩ := h
  exact ⟨by rw [World.cell?_setCell_other _ _ _ _ (by simp)]; exact h0, World.cell?_setCell_same _ _ _ h1, by simpa using h2, by simpa using h3⟩

theorem val_cons (x : Bool) (zs : List Bool) : (val (x :: zs) : Int) = 2 * val zs + x.toNat := by simp only [val]; omega

set_option maxHeartbeats 1000000 in
set_option maxRecDepth 100000 in
theorem refOf_in (ys : List Bool) (a : Option Addr) (cap : Nat) (w : World) (h : Row w (.slice a ys.length cap) ys) (hl : ys.length ≤ 60) :
    Calls Try.prog 14 #[.slice a ys.length cap] w fun e w' => e = .returned (ringV ys.reverse) ∧ Below w.heap.size w w' := by
  obtain ⟨a', cap', e, r1, r2, r3⟩ := h
  simp only [Value.slice.injEq, true_and] at e
  obtain ⟨rfl, rfl⟩ := e
  unfold maxLen at r2
  go_enter Try.func14, Try.ntmps14
  go_wp2_with fail
  go_loopw [4] (fun i wr => ∃ (j : Nat), j ≤ ys.length ∧ i = .int .i64 j ∧ Below w.heap.size w wr ∧ Two wr (w.heap.size + 1) (.int .i64 ys.length) (.int .u64 (val (ys.take j).reverse)) ∧ Two wr w.heap.size (.int .i64 0) (.int .u64 0)) (fun i _ => ((ys.length : Int) - intOf i).toNat)
  case atStart => exact ⟨0, by omega, rfl, ((Below.refl _ _).alloc (by simp) _).alloc (by simp) _, by simp [Two, val], by simp [Two]⟩
  case round =>
    obtain ⟨j, hj, rfl, hbw, ht, hr⟩ := hrel
    by_cases hlt : (j : Int) < ys.length
    · obtain ⟨b, o, rfl, r4⟩ := r3 (by intro e; rw [e, List.length_nil] at hlt; omega)
      obtain ⟨x, hxj⟩ : ∃ x, ys[j]? = some x := ⟨_, List.getElem?_eq_getElem (by omega)⟩
      have hc0 := cell_later hbw (r4 j x hxj)
      have hbw0 : b < w.heap.size := World.block_lt_of_cell? _ _ (r4 j x hxj)
      have hc : ∀ u, (wr.setCell ⟨w.heap.size + 1, 1, none⟩ u).cell? ⟨b, o + j, none⟩ = some (.bool x) := fun u => by
        rw [World.cell?_setCell_other _ _ _ _ (fun h => by have := congrArg Addr.block h; simp at this; omega)]; exact hc0
      have hbd := val_bd (zs := (ys.take j).reverse) (by simp; omega)
      have HX : Hid ((val (ys.take (j + 1)).reverse : Int) = 2 * val (ys.take j).reverse + x.toNat) := by
        show _ = _; rw [take_next hxj, List.reverse_append]; exact val_cons x _
      clear hxj r4 r3
      generalize (ys.take j).reverse = q at *
      obtain ⟨t0, t1, t2, t3⟩ := id ht
      clear hc0
      cases x
      · go_wp2_with fail
        go_roundw
        case rel => exact ⟨j + 1, by omega, by go_num, hbw.setCell (by simp) _, by rw [HX.out]; exact ht.put1 _ _ (by simp), hr.other (by omega) _⟩
        case measure => simp [intOf]; omega
      · go_wp2_with fail
        go_roundw
        case rel => exact ⟨j + 1, by omega, by go_num, (hbw.setCell (by simp) _).setCell (by simp) _, by rw [HX.out]; exact (ht.put1 _ _ rfl).put1 _ _ (by simp), (hr.other (by omega) _).other (by omega) _⟩
        case measure => simp [intOf]; omega
    · obtain rfl : j = ys.length := by omega
      rw [List.take_length] at ht
      obtain ⟨t0, t1, _, _⟩ := id ht
      obtain ⟨q0, q1, q2, q3⟩ := id hr
      clear r3
      go_wp2_with fail
      refine bodyPost_ret (v := ringV ys.reverse) ?_ rfl ⟨rfl, ?_⟩
      · simp [results, Try.results14, go_sem, ringV, q0, q1]
      · exact (hbw.setCell (by simp) _).setCell (by simp) _

set_option maxHeartbeats 1000000 in
set_option maxRecDepth 100000 in
theorem refOf_long (xs ys : List Bool) (b o cap : Nat) (w : World) (h : Row w (.slice (some ⟨b, o, none⟩) xs.length cap) xs) (hx : 60 < xs.length) (hx' : xs.length ≤ 1000) (hy : Hid (ys = xs.drop (xs.length - 60))) :
    Calls Try.prog 14 #[.slice (some ⟨b, o, none⟩) xs.length cap] w fun e w' => e = .returned (ringV ys.reverse) ∧ Below w.heap.size w w' := by
  have h' := h.tail (n := xs.length - 60) (by omega)
  rw [← hy.out] at h'
  have hl : ys.length ≤ 60 := by rw [hy.out]; simp; omega
  have hyl : xs.length - (xs.length - 60) = ys.length := by rw [hy.out]; simp
  rw [hyl] at h'
  obtain ⟨_, _, _, _, p2, _⟩ := h
  obtain ⟨a', cap', e, r1, r2, r3⟩ := h'
  simp only [Value.slice.injEq, true_and] at e
  obtain ⟨rfl, rfl⟩ := e
  unfold maxLen at p2
  have hcx : xs.length ≤ cap := by omega
  go_enter Try.func14, Try.ntmps14
  go_wp2_with fail
  go_loopw [4] (fun i wr => ∃ (j : Nat), j ≤ ys.length ∧ i = .int .i64 j ∧ Below w.heap.size w wr ∧ Two wr (w.heap.size + 1) (.int .i64 ys.length) (.int .u64 (val (ys.take j).reverse)) ∧ Two wr w.heap.size (.int .i64 0) (.int .u64 0)) (fun i _ => ((ys.length : Int) - intOf i).toNat)
  case atStart => exact ⟨0, by omega, rfl, ((Below.refl _ _).alloc (by simp) _).alloc (by simp) _, by simp [Two, val], by simp [Two]⟩
  case round =>
    obtain ⟨j, hj, rfl, hbw, ht, hr⟩ := hrel
    by_cases hlt : (j : Int) < ys.length
    · obtain ⟨b', o', e', r4⟩ := r3 (by intro e; rw [e, List.length_nil] at hlt; omega)
      simp only [Option.some.injEq, Addr.mk.injEq, and_true] at e'
      obtain ⟨rfl, rfl⟩ := e'
      obtain ⟨x, hxj⟩ : ∃ x, ys[j]? = some x := ⟨_, List.getElem?_eq_getElem (by omega)⟩
      have hc0 := cell_later hbw (r4 j x hxj)
      have hbw0 : b < w.heap.size := World.block_lt_of_cell? _ _ (r4 j x hxj)
      have hc : ∀ u, (wr.setCell ⟨w.heap.size + 1, 1, none⟩ u).cell? ⟨b, o + (xs.length - 60) + j, none⟩ = some (.bool x) := fun u => by
        rw [World.cell?_setCell_other _ _ _ _ (fun h => by have := congrArg Addr.block h; simp at this; omega)]; exact hc0
      have hbd := val_bd (zs := (ys.take j).reverse) (by simp; omega)
      have HX : Hid ((val (ys.take (j + 1)).reverse : Int) = 2 * val (ys.take j).reverse + x.toNat) := by
        show _ = _; rw [take_next hxj, List.reverse_append]; exact val_cons x _
      clear hxj r4 r3
      generalize (ys.take j).reverse = q at *
      obtain ⟨t0, t1, t2, t3⟩ := id ht
      clear hc0
      cases x
      · go_wp2_with fail
        go_roundw
        case rel => exact ⟨j + 1, by omega, by go_num, hbw.setCell (by simp) _, by rw [HX.out]; exact ht.put1 _ _ (by simp), hr.other (by omega) _⟩
        case measure => simp [intOf]; omega
      · go_wp2_with fail
        go_roundw
        case rel => exact ⟨j + 1, by omega, by go_num, (hbw.setCell (by simp) _).setCell (by simp) _, by rw [HX.out]; exact (ht.put1 _ _ rfl).put1 _ _ (by simp), (hr.other (by omega) _).other (by omega) _⟩
        case measure => simp [intOf]; omega
    · obtain rfl : j = ys.length := by omega
      rw [List.take_length] at ht
      obtain ⟨t0, t1, _, _⟩ := id ht
      obtain ⟨q0, q1, q2, q3⟩ := id hr
      clear r3
      go_wp2_with fail
      refine bodyPost_ret (v := ringV ys.reverse) ?_ rfl ⟨rfl, ?_⟩
      · simp [results, Try.results14, go_sem, ringV, q0, q1]
      · exact (hbw.setCell (by simp) _).setCell (by simp) _

set_option maxHeartbeats 1000000 in
set_option maxRecDepth 100000 in
theorem refOf_any (xs : List Bool) (v : Value) (w : World) (h : Row w v xs) (hx : xs.length ≤ 1000) :
    Calls Try.prog 14 #[v] w fun e w' => e = .returned (ringV (ofZ xs)) ∧ Below w.heap.size w w' := by
  have h' := h
  obtain ⟨a, cap, rfl, r1, r2, r3⟩ := h'
  have e := congrArg List.reverse (ofZ_back xs)
  rw [List.reverse_reverse] at e
  rw [e]
  by_cases c : 60 < xs.length
  · obtain ⟨b, o, rfl, _⟩ := r3 (by intro e; subst e; simp at c)
    exact refOf_long xs _ b o cap w h c hx rfl
  · rw [show xs.length - 60 = 0 by omega]
    exact refOf_in xs a cap w h (by omega)

theorem Two.under {w w' : World} {b B : Nat} {u v : Value} (h : Two w b u v) (hb : Below B w w') (hB : b < B) : Two w' b u v := by
  obtain ⟨h0, h1, h2, h3⟩ := h
  exact ⟨(hb.cell (p := ⟨b, 0, none⟩) hB).trans h0, (hb.cell (p := ⟨b, 1, none⟩) hB).trans h1, (hb.frozen (p := ⟨b, 0, none⟩) hB).trans h2, (hb.frozen (p := ⟨b, 1, none⟩) hB).trans h3⟩

set_option maxHeartbeats 1000000 in
set_option maxRecDepth 100000 in
theorem refPut_any (N B : Int) (g : Bool) (w : World) (b0 : 0 ≤ B) :
    Calls Try.prog 12 #[.agg #[.int .i64 N, .int .u64 B], .bool g] w fun e w' => e = .returned (ringV ((g :: ringOf N B).take 60)) ∧ Below w.heap.size w w' := by
  have hl := ringOf_len N B
  have HO : Hid (ofZ ((ringOf N B).reverse ++ [g]) = (g :: ringOf N B).take 60) := by
    show _ = _; rw [← ofZ_put, ofZ_rev hl]
  go_enter Try.func12, Try.ntmps12
  go_wp2_with fail
  refine (refList_any N B _ b0).mono ?_
  rintro e w1 ⟨v, rfl, hown, hb1⟩
  generalize hz : ringOf N B = zs at *
  have HZ : Hid (ringOf N B = zs) := hz
  clear hz
  have c0 : Two w1 (w.heap.size + 1) (.int .i64 0) (.int .u64 0) := by
    have t : Two ((w.alloc (.cells #[.int .i64 N, .int .u64 B] 24)).alloc (.cells #[.int .i64 0, .int .u64 0] 24)) (w.heap.size + 1) (.int .i64 0) (.int .u64 0) := by simp [Two]
    exact t.later hb1
  have hb : Below w.heap.size w w1 := (((Below.refl _ _).alloc (by simp) _).alloc (by simp) _).trans (hb1.mono (by simp; omega))
  have s1 : w.heap.size + 2 ≤ w1.heap.size := by have := hb1.size; simp at this; omega
  simp only [World.size_alloc] at hown
  clear hb1
  have hown1 := hown.alloc (.cells #[.bool g] 4)
  have hlit : Row (w1.alloc (.cells #[.bool g] 4)) (.slice (some ⟨w1.heap.size, 0, none⟩) 1 1) [g] := Row.own (base := 0) (World.ownsRow_lit w1 #[.bool g] 1 (by omega) (by unfold maxLen; omega) rfl) rfl
  have hc1 : ∀ c, (Value.slice (some ⟨w1.heap.size, 0, none⟩) 1 1) = .slice none 0 c → c = 0 := fun c h => by simp at h
  have c1 := c0.later ((Below.refl _ _).alloc (Nat.le_refl _) (.cells #[.bool g] 4))
  go_wp2_with (first
    | (at_builtin; refine append_row rfl _ _ rfl _ _ _ _ _ [g] rfl hown1 rfl hlit hc1 (by simp; omega) (by simp; omega) ?_))
  intro v' w2 hown2 hb2
  have hrow := Row.own hown2 (by simp)
  have c2 := c1.under hb2 (by omega)
  have hb3 : Below w.heap.size w w2 := (hb.alloc (by omega) _).trans (hb2.mono (by omega))
  clear hb hb2 hown hown1 hown2 hlit hc1 c0 c1
  go_wp2_with fail
  refine (refOf_any _ _ _ hrow (by simp; omega)).mono ?_
  rintro e w3 ⟨rfl, hb4⟩
  rw [HO.out]
  have c3 := c2.later hb4
  have hb5 := hb3.trans (hb4.mono hb3.size)
  clear hb3 hb4 c2 hrow
  obtain ⟨q0, q1, q2, q3⟩ := id c3
  generalize hp : (g :: zs).take 60 = ps at *
  have HP : Hid ((g :: zs).take 60 = ps) := hp
  clear hp
  unfold ringV
  go_wp2_with fail
  refine bodyPost_ret (v := ringV ps) ?_ rfl ⟨by rw [HZ.out, HP.out], ?_⟩
  · simp [results, Try.results12, go_sem, ringV, q0, q1]
  · exact (hb5.setCell (by simp) _).setCell (by simp) _
end Go.Proofs.Ytiagcihghalomaa
