/- Walks: Pop. -/
import Derived.Test.YtpefigaaeiaioaaH13
import Derived.Deep.RegionWith
namespace Go.Proofs.Ytpefigaaeiaioaa
open Go.RowKit
set_option linter.unusedVariables false

/-- What is left of a list, its first one popped. -/
def popL (xs : List (Int × Int)) : List (Int × Int) := if 0 < (qOf xs).length then xs.tail else xs
theorem pop_rest {xs ys zs : List (Int × Int)} (hs : srtd xs) (hy : ys.Perm xs) (hh : heapN ys ys.length) (hz : (atI ys 0 :: zs).Perm ys) : srt zs = xs.tail := by
  have h1 : (atI ys 0 :: srt zs) = xs := by
    refine srtd_perm ?_ hs (((srt_perm zs).cons _).trans (hz.trans hy))
    refine List.pairwise_cons.2 ⟨fun z hz' => ?_, srt_srtd zs⟩
    exact head_least hh z (hz.mem_iff.1 (List.mem_cons_of_mem _ ((srt_perm zs).mem_iff.1 hz')))
  rw [← h1]; rfl
theorem qOf_pos {xs : List (Int × Int)} (h : 0 < (qOf xs).length) : mayB xs = true ∧ qOf xs = xs := by
  unfold qOf at *; split at h
  · next hm => exact ⟨hm, by rw [if_pos hm]⟩
  · simp at h
/-- What Pop comes to. -/
def PopE (xs : List (Int × Int)) (w : World) (e : Ending) (w' : World) : Prop :=
  ∃ v, e = .returned (.tuple #[v, itV (atI (qOf xs) 0), .bool (decide (0 < (qOf xs).length))]) ∧ w'.ownsRow w.heap.size 24 2 v (popL xs).length (flat (popL xs)) ∧ Below w.heap.size w w'
theorem World.ownsRow.lower {w : World} {B B' : Nat} {v : Value} {n : Nat} {xs : List Value} (h : w.ownsRow B' 24 2 v n xs) (hB : B ≤ B') : w.ownsRow B 24 2 v n xs := by
  obtain ⟨o1, o2⟩ := h
  refine ⟨o1, o2.imp id ?_⟩
  rintro ⟨g, c, cur, e, r1, r2⟩
  exact ⟨g, c, cur, e, Nat.le_trans hB r1, r2⟩
/-- A result's cells, while they may be written. -/
def Res (w : World) (b : Nat) : Prop := w.cell? ⟨b, 0, none⟩ = some (.int .i64 0) ∧ w.cell? ⟨b, 1, none⟩ = some (.int .i64 0) ∧ w.frozen? ⟨b, 0, none⟩ = false ∧ w.frozen? ⟨b, 1, none⟩ = false
theorem Res.new (w : World) : Res (w.alloc (.cells #[.int .i64 0, .int .i64 0] 24)) w.heap.size := by simp [Res]
theorem Res.later {w w' : World} {b : Nat} (h : Res w b) (hb : Below w.heap.size w w') : Res w' b := by
  obtain ⟨h0, h1, h2, h3⟩ := h
  have hl := World.block_lt_of_cell? _ _ h0
  exact ⟨cell_later hb h0, cell_later hb h1, (hb.frozen (p := ⟨b, 0, none⟩) hl).trans h2, (hb.frozen (p := ⟨b, 1, none⟩) hl).trans h3⟩
theorem Res.kept {w w' : World} {b p : Nat} {a : Option Addr} (h : Res w b) (hk : Kept p a w w') (h1 : b ≠ p) (h2 : some b ≠ a.map (·.block)) : Res w' b := by
  obtain ⟨h0, h1', h2', h3⟩ := h
  have hl := World.block_lt_of_cell? _ _ h0
  exact ⟨(hk.cell (q := ⟨b, 0, none⟩) hl h1 h2).trans h0, (hk.cell (q := ⟨b, 1, none⟩) hl h1 h2).trans h1', (hk.frozen (q := ⟨b, 0, none⟩) hl h1 h2).trans h2', (hk.frozen (q := ⟨b, 1, none⟩) hl h1 h2).trans h3⟩
theorem Hp.low {B p cap b : Nat} {w : World} {a : Option Addr} {xs : List (Int × Int)} (h : Hp B w p a cap xs) (hb : b < B) : b ≠ p ∧ some b ≠ a.map (·.block) := by
  refine ⟨by have := h.le; omega, fun e => ?_⟩
  have := (h.own.lt b (by rw [Value.ownBlock_map]; exact e.symm)).1
  omega

theorem own_set {w : World} {B n b k : Nat} {v : Value} {xs : List Value} (h : w.ownsRow B 24 2 v n xs) (hb : v.ownBlock ≠ some b) (u : Value) : (w.setCell ⟨b, k, none⟩ u).ownsRow B 24 2 v n xs :=
  h.kept (row := some b) ⟨rfl, rfl, rfl, by simp, fun k _ hk => Below.heap_setCell _ _ _ _ (fun e => hk (by rw [e]))⟩ (Or.inr hb)
theorem xset {w : World} {b c k : Nat} {u : Value} (h : w.cell? ⟨b, k, none⟩ = some u) (hc : c ≠ b) (x y : Value) : ((w.setCell ⟨c, 0, none⟩ x).setCell ⟨c, 1, none⟩ y).cell? ⟨b, k, none⟩ = some u := by
  rw [World.cell?_setCell_other _ _ _ _ (fun h => hc (congrArg Addr.block h)), World.cell?_setCell_other _ _ _ _ (fun h => hc (congrArg Addr.block h))]; exact h
theorem xcell0 (w : World) (u v : Value) (t : TypeId) : (w.alloc (.cells #[u, v] t)).drew.cell? ⟨w.heap.size, 0, none⟩ = some u := by simp
theorem xcell1 (w : World) (u v : Value) (t : TypeId) : (w.alloc (.cells #[u, v] t)).drew.cell? ⟨w.heap.size, 1, none⟩ = some v := by simp

set_option maxHeartbeats 2000000 in
set_option maxRecDepth 100000 in
theorem pop_any (xs : List (Int × Int)) (v : Value) (w : World) (h : Its w v xs) (hx : xs.length ≤ 900) :
    Calls Try.prog 13 #[v] w (PopE xs w) := by
  have b0 : Below w.heap.size w (w.alloc (.cells #[.int .i64 0, .int .i64 0] 24)) := (Below.refl _ _).alloc (Nat.le_refl _) _
  have HI : Hid (Its w v xs) := h
  clear h
  go_enter Try.func13, Try.ntmps13
  go_wp2_with fail
  refine (queueOf_any xs v _ (HI.out.later b0)).mono ?_
  rintro e w1 ⟨p, a, cap, ys, rfl, hp, hper, hh, hb1⟩
  have hlow := hp.low (b := w.heap.size) (by simp)
  have hR1 := (Res.new w).later hb1
  have hs1 := hb1.size
  have hyl : ys.length ≤ 40 := by rw [hper.length_eq]; exact qOf_len xs
  have HP : Hid (Hp (w.alloc (.cells #[.int .i64 0, .int .i64 0] 24)).heap.size w1 p a cap ys ∧ ys.Perm (qOf xs) ∧ heapN ys ys.length ∧ Below w.heap.size w w1) := ⟨hp, hper, hh, below_next b0 hb1 (by simp)⟩
  clear hp hper hh hb1 b0
  go_wp2_with fail
  refine (first_take _ p cap a ys w1 HP.out.1 (by omega) HP.out.2.2.1).mono ?_
  rintro e w2 ⟨zs, rfl, hp2, hh2, hper2, hk2⟩
  have hR2 := hR1.kept hk2 hlow.1 hlow.2
  have hB2 : Below w.heap.size w w2 := HP.out.2.2.2.trans ((hk2.below HP.out.1 hs1).mono (by simp))
  have hxi : atI ys 0 = atI (qOf xs) 0 := heap_head HP.out.2.2.1 HP.out.2.1 (qOf_srtd xs)
  have hln := HP.out.2.1.length_eq
  rw [hxi, hln]
  have hsz2 : w.heap.size < w2.heap.size := by have := hk2.size; simp at hs1; omega
  have hB3 := hB2.alloc (by omega) (.cells #[.int .i64 (atI (qOf xs) 0).1, .int .i64 (atI (qOf xs) 0).2] 24)
  have hR3 := hR2.later ((Below.refl _ _).alloc (Nat.le_refl _) (.cells #[.int .i64 (atI (qOf xs) 0).1, .int .i64 (atI (qOf xs) 0).2] 24))
  have hp3 := hp2.alloc (.cells #[.int .i64 (atI (qOf xs) 0).1, .int .i64 (atI (qOf xs) 0).2] 24)
  have hlp := hp2.lt
  by_cases hpos : 0 < (qOf xs).length
  · rw [decide_eq_true hpos]
    have hrest : srt zs = popL xs := by
      unfold popL; rw [if_pos hpos]
      have := pop_rest (qOf_srtd xs) HP.out.2.1 HP.out.2.2.1 (hper2 (by rw [hln]; exact hpos))
      rw [(qOf_pos hpos).2] at this; exact this
    have hzl : zs.length ≤ 40 := by have := (hper2 (by rw [hln]; exact hpos)).length_eq; simp at this; omega
    have hc2 := hp2.cell
    have HZ : Hid (srt zs = popL xs ∧ heapN zs zs.length ∧ Hp (w.alloc (.cells #[.int .i64 0, .int .i64 0] 24)).heap.size (w2.alloc (.cells #[.int .i64 (atI (qOf xs) 0).1, .int .i64 (atI (qOf xs) 0).2] 24)) p a cap zs ∧ Below w.heap.size w (w2.alloc (.cells #[.int .i64 (atI (qOf xs) 0).1, .int .i64 (atI (qOf xs) 0).2] 24)) ∧ Res (w2.alloc (.cells #[.int .i64 (atI (qOf xs) 0).1, .int .i64 (atI (qOf xs) 0).2] 24)) w.heap.size) := ⟨hrest, hh2, hp3, hB3, hR3⟩
    have hnew := hp2.new (Nat.le_refl _)
    clear hp2 hh2 hper2 hk2 hR1 hR2 hR3 hB2 hB3 hrest hp3 hxi hln HP
    unfold itV
    generalize hx : atI (qOf xs) 0 = x at *
    have HX : Hid (atI (qOf xs) 0 = x ∧ 0 < (qOf xs).length) := ⟨hx, hpos⟩
    clear hx hpos hyl
    have hn1 : w2.heap.size < (w2.alloc (.cells #[.int .i64 x.1, .int .i64 x.2] 24)).drew.heap.size := by show _ < (World.alloc _ _).heap.size; simp
    go_wp2_with fail
    go_region_with (first
      | (go_at_call 29; refine (len_any _ _ _ _).mono ?_; rintro e w4 ⟨rfl, hw⟩; obtain rfl := hw.symm)
      | (go_at_call 28; refine (drain_any _ p cap a zs _ HZ.out.2.2.1.drew (by omega) HZ.out.2.1).mono ?_; rintro e w5 ⟨u, rfl, hown, hk5⟩; have kx0 := (hk5.cell (q := ⟨w2.heap.size, 0, none⟩) hn1 hnew.1 hnew.2).trans (xcell0 _ _ _ _); have kx1 := (hk5.cell (q := ⟨w2.heap.size, 1, none⟩) hn1 hnew.1 hnew.2).trans (xcell1 _ _ _ _); have hr5 := (Res.later HZ.out.2.2.2.2 (Below.refl _ _).drew).kept hk5 hlow.1 hlow.2; obtain ⟨r0, r1, r2, r3⟩ := id hr5))
    all_goals
      have HO : Hid (w5.ownsRow w.heap.size 24 2 u (popL xs).length (flat (popL xs)) ∧ Below w.heap.size w w5 ∧ u.ownBlock ≠ some w.heap.size) := by
        obtain ⟨z1, z2, z3, z4, z5⟩ := HZ.out
        have hsa : (w2.alloc (.cells #[.int .i64 x.1, .int .i64 x.2] 24)).drew.heap.size = w2.heap.size + 1 := by show (World.alloc _ _).heap.size = _; simp
        have hb5 := (hk5.below z3 (by rw [hsa]; simp; omega)).mono (B' := w.heap.size) (by simp)
        rw [hsa] at hown
        refine ⟨?_, z4.drew.trans hb5, fun e => by have := (hown.lt _ e).1; omega⟩
        rw [← z1, srt_len]; exact World.ownsRow.lower hown (by omega)
      clear hown hk5 hr5 HZ
      go_wp2_with fail
      refine bodyPost_ret (v := .tuple #[u, itV x, .bool true]) ?_ rfl ?_
      · simp [results, Try.results13, go_sem, itV, r0, r1]
      · refine ⟨u, by rw [HX.out.1, decide_eq_true HX.out.2], ?_, (HO.out.2.1.setCell (Nat.le_refl _) _).setCell (Nat.le_refl _) _⟩
        exact own_set (own_set HO.out.1 HO.out.2.2 _) HO.out.2.2 _
  · rw [decide_eq_false hpos]
    have HE : Hid (popL xs = xs ∧ decide (0 < (qOf xs).length) = false) := ⟨if_neg hpos, decide_eq_false hpos⟩
    have HB : Hid (Below w.heap.size w (w2.alloc (.cells #[.int .i64 (atI (qOf xs) 0).1, .int .i64 (atI (qOf xs) 0).2] 24)) ∧ Res (w2.alloc (.cells #[.int .i64 (atI (qOf xs) 0).1, .int .i64 (atI (qOf xs) 0).2] 24)) w.heap.size) := ⟨hB3, hR3⟩
    clear hp2 hh2 hper2 hk2 hR1 hR2 hR3 hB2 hB3 hxi hln hp3 HP
    unfold itV
    generalize hx : atI (qOf xs) 0 = x at *
    have HX : Hid (atI (qOf xs) 0 = x) := hx
    have HX0 : Hid (x = (0, 0)) := by
      rw [← hx, List.eq_nil_of_length_eq_zero (show (qOf xs).length = 0 by omega)]; rfl
    clear hx hpos
    go_wp2_with fail
    refine (clone_any xs v _ (HI.out.later HB.out.1) (by omega)).mono ?_
    rintro e w4 ⟨u, rfl, hown, hb4⟩
    obtain ⟨c0, c1, f0, f1⟩ := HB.out.2.later hb4
    have HO : Hid (w4.ownsRow w.heap.size 24 2 u xs.length (flat xs) ∧ Below w.heap.size w w4) := ⟨World.ownsRow.lower hown (by simp; omega), below_next HB.out.1 hb4 (by simp; omega)⟩
    have HO3 : Hid (u.ownBlock ≠ some w.heap.size) := fun e => by have := (hown.lt _ e).1; simp at this; omega
    clear hown hb4
    go_wp2_with fail
    refine bodyPost_ret (v := .tuple #[u, itV (0, 0), .bool false]) ?_ rfl ?_
    · simp [results, Try.results13, go_sem, itV, c0, c1]
    · refine ⟨u, by rw [HX.out, HX0.out, HE.out.2], ?_, (HO.out.2.setCell (Nat.le_refl _) _).setCell (Nat.le_refl _) _⟩
      rw [HE.out.1]
      exact own_set (own_set HO.out.1 HO3.out _) HO3.out _
end Go.Proofs.Ytpefigaaeiaioaa
