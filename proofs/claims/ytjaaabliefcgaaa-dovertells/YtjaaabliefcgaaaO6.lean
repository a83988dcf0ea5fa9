/- Walk of dover's inOrder. -/
import Derived.Test.YtjaaabliefcgaaaO5
import Derived.Test.YtjaaabliefcgaaaO3
namespace Go.Proofs.Ytjaaabliefcgaaa
open Go.RowKit Go.Maps Go.Shelf

theorem Aps.open {w : World} {v : Value} {xs : List Ap} (h : Aps w v xs) : ∃ a cap, v = .slice a xs.length cap ∧ xs.length ≤ cap ∧ cap ≤ maxLen ∧ (a = none → cap = 0) ∧ (0 < xs.length → ∃ b o, a = some ⟨b, o, none⟩ ∧ ∀ i, i < xs.length → w.cell? ⟨b, o + i * 5, none⟩ = some (.int .i64 (atA xs i).id) ∧ w.cell? ⟨b, o + i * 5 + 1, none⟩ = some (.int .i64 (atA xs i).due) ∧ w.cell? ⟨b, o + i * 5 + 2, none⟩ = some (.int .i64 (atA xs i).c) ∧ w.cell? ⟨b, o + i * 5 + 3, none⟩ = some (.int .i64 (atA xs i).v) ∧ w.cell? ⟨b, o + i * 5 + 4, none⟩ = some (.int .i64 (atA xs i).r)) := by
  obtain ⟨a, cap, rfl, h1, h2, h0, h3⟩ := h
  refine ⟨a, cap, rfl, h1, h2, h0, fun hp => ?_⟩
  obtain ⟨b, o, rfl, h4⟩ := h3 hp
  refine ⟨b, o, rfl, fun i hi => ?_⟩
  have k0 := h4 i hi 0 (by decide)
  have k1 := h4 i hi 1 (by decide)
  have k2 := h4 i hi 2 (by decide)
  have k3 := h4 i hi 3 (by decide)
  have k4 := h4 i hi 4 (by decide)
  exact ⟨k0, k1, k2, k3, k4⟩
/-- A row of items of the call's own. -/
def OwnI (w : World) (g n : Nat) (ks : List (Int × Int)) : Prop := w.ownsRow g 50 2 (.slice (some ⟨g, 0, none⟩) n n) n (flat ks)
theorem OwnI.kept {w w' : World} {g n : Nat} {ks : List (Int × Int)} {row : Option Nat} (h : OwnI w g n ks) (hg : w.grownBy w' row) (hne : some g ≠ row) : OwnI w' g n ks := by
  unfold OwnI at h ⊢
  exact h.kept hg (.inr hne)
theorem OwnA.enc {w : World} {base : Nat} {v : Value} {xs : List Ap} (h : OwnA w base v xs) : ∃ d, encS v = some (d, []) := by
  unfold OwnA at h
  rw [flatA_R] at h
  exact encS_own (R := recA) h
theorem cell_grown {w w' : World} {row : Option Nat} {p : Addr} {v : Value} (hg : w.grownBy w' row) (hne : some p.block ≠ row) (hc : w.cell? p = some v) : w'.cell? p = some v :=
  (World.cell?_of_block (hg.block _ (World.block_lt_of_cell? _ _ hc) hne)).trans hc
theorem own_low {w : World} {B B' : Nat} {e : TypeId} {size : Nat} {v : Value} {n : Nat} {xs : List Value} (h : w.ownsRow B' e size v n xs) (hB : B ≤ B') : w.ownsRow B e size v n xs := by
  obtain ⟨h0, h1 | ⟨g, cap, cur, h2, h3, h4⟩⟩ := h
  · exact ⟨h0, .inl h1⟩
  · exact ⟨h0, .inr ⟨g, cap, cur, h2, Nat.le_trans hB h3, h4⟩⟩
theorem grown_drew (w : World) : w.grownBy w.drew none := ⟨rfl, rfl, rfl, Nat.le_refl _, fun _ _ _ => rfl⟩
theorem grown_then {a b c : World} {row : Option Nat} (h : a.grownBy b row) (k : b.grownBy c none) : a.grownBy c row :=
  ⟨k.os.trans h.os, k.tape.trans h.tape, k.output.trans h.output, Nat.le_trans h.size k.size, fun i hi hne => (k.block i (Nat.lt_of_lt_of_le hi h.size) (by simp)).trans (h.block i hi hne)⟩
theorem frozen_grown {w w' : World} {row : Option Nat} {p : Addr} {v : Value} {f : Bool} (hg : w.grownBy w' row) (hne : some p.block ≠ row) (hc : w.cell? p = some v) (hf : w.frozen? p = f) : w'.frozen? p = f :=
  (World.frozen?_of_block (hg.block _ (World.block_lt_of_cell? _ _ hc) hne)).trans hf
/-- Ahead of a round that takes the first ones of each item. -/
structure Tak (w5 wr : World) (b g n m : Nat) (u : Value) (L : List Ap) (j i : Nat) (D : DataW Unit) (V : Int × Int → Value) : Prop where
  own : wr.ownsMap Try.prog 50 encS b m D
  hold : HoldS D V
  rows : ∀ x, Aps w5 (V x) (selA x (L.drop j))
  grow : w5.grownBy wr (some b)
  sorted : OwnR recA wr g 30 (.slice (some ⟨g, 0, none⟩) n n) n (toR apZ i (atA L))
  keys : wr.ownsRow (g + 1) 50 2 u n (flat (keysA L))
  isMap : ∃ es clock, w5.heap[b]? = some (.map es clock)
theorem Tak.kept {w5 wr w' : World} {b g n m : Nat} {u : Value} {L : List Ap} {j i : Nat} {D : DataW Unit} {V : Int × Int → Value} (h : Tak w5 wr b g n m u L j i D V) (hg : wr.grownBy w' none) : Tak w5 w' b g n m u L j i D V := by
  refine ⟨h.own.kept hg (by simp), h.hold, h.rows, grown_then h.grow hg, ?_, ?_, h.isMap⟩
  · have := h.sorted
    unfold OwnR at this ⊢
    exact this.kept hg (.inr (fun e => by simp [Value.ownBlock] at e))
  · refine h.keys.kept hg ?_
    cases c : u.ownBlock with
    | none => exact .inl rfl
    | some k => exact .inr (by simp)
theorem Tak.store {w5 wr w' : World} {b g n m : Nat} {u : Value} {L : List Ap} {j : Nat} {D : DataW Unit} {V : Int × Int → Value} {a : Ap} (h : Tak w5 wr b g n m u L j j D V) (hj : j < n) (ha : ∀ i, upR (toR apZ j (atA L)) j a i = toR apZ (j + 1) (atA L) i) (hb : b < g) (hgw : w5.heap.size ≤ g) (hg : wr.grownBy w' (some g)) (hw : w' = putW wr g (j * 5) a.row := by rfl) :
    Tak w5 w' b g n m u L j (j + 1) D V := by
  subst hw
  refine ⟨h.own.kept hg (by simp; omega), h.hold, h.rows, ⟨hg.os.trans h.grow.os, hg.tape.trans h.grow.tape, hg.output.trans h.grow.output, Nat.le_trans h.grow.size hg.size, fun k hk hne => (hg.block k (Nat.lt_of_lt_of_le hk h.grow.size) (by simp; omega)).trans (h.grow.block k hk hne)⟩, ?_, ?_, h.isMap⟩
  · exact (OwnR.put (R := recA) h.sorted hj a).congr (fun i _ => ha i)
  · refine h.keys.kept hg ?_
    cases c : u.ownBlock with
    | none => exact .inl rfl
    | some k =>
      refine .inr (fun e => ?_)
      have := (h.keys.lt k c).1
      simp at e
      omega
theorem Tak.entry {w5 w4 w15 w17 : World} {b g n m : Nat} {u v : Value} {L : List Ap} {j i : Nat} {D : DataW Unit} {V : Int × Int → Value} {k : Int × Int} {d : DataW Unit} (h : Tak w5 w4 b g n m u L j i D V) (hb : b < g) (hk : wfK k) (h1 : w4.grownBy w15 (some b)) (h2 : w15.grownBy w17 (some b))
    (hown : w17.ownsMap Try.prog 50 encS b (m + 1) (D.put (keyL k) d)) (hd : encS v = some (d, [])) (hv : Aps w5 v (selA k (L.drop (j + 1)))) (ho : ∀ x, x ≠ k → selA x (L.drop j) = selA x (L.drop (j + 1))) : Tak w5 w17 b g n (m + 1) u L (j + 1) i (D.put (keyL k) d) (putV V k v) := by
  have h3 := h1.trans h2
  refine ⟨hown, h.hold.put h.own.isMap hk hd, fun x => ?_, h.grow.trans h3, ?_, ?_, h.isMap⟩
  · unfold putV
    by_cases c : x = k
    · rw [if_pos c, c]; exact hv
    · rw [if_neg c, ← ho x c]; exact h.rows x
  · have := h.sorted
    unfold OwnR at this ⊢
    exact this.kept h3 (.inr (by simp [Value.ownBlock]; omega))
  · refine h.keys.kept h3 ?_
    cases c : u.ownBlock with
    | none => exact .inl rfl
    | some k =>
      refine .inr (fun e => ?_)
      have := (h.keys.lt k c).1
      simp at e
      omega
theorem not_map {w : World} {b bk o : Nat} {v : Value} (h : ∃ es clock, w.heap[b]? = some (.map es clock)) (hc : w.cell? ⟨bk, o, none⟩ = some v) : bk ≠ b := by
  rintro rfl
  obtain ⟨es, clock, h⟩ := h
  unfold World.cell? at hc
  simp [h] at hc
theorem keys_next {xs : List Ap} {j n : Nat} (h : j < xs.length) (hn : n = xs.length) : (keysA (xs.take j) ++ List.replicate (n - j) (0, 0)).set j (atA xs j).key = keysA (xs.take (j + 1)) ++ List.replicate (n - (j + 1)) (0, 0) := by
  have hl : (keysA (xs.take j)).length = j := by rw [keysA_len, List.length_take]; omega
  obtain ⟨m, hm⟩ : ∃ m, n - j = m + 1 := ⟨n - j - 1, by omega⟩
  rw [hm, show n - (j + 1) = m by omega]
  have := set_front (ts := keysA (xs.take j)) (m := m) (atA xs j).key (0, 0)
  rw [hl] at this
  rw [this, takeA_next h]
  unfold keysA
  rw [List.map_append]
  rfl
theorem addF_next {xs : List Ap} {j : Nat} (h : j < xs.length) : ∀ x, addF (fun x => selA x (xs.take j)) (atA xs j).key (atA xs j) x = selA x (xs.take (j + 1)) := by
  intro x
  rw [selA_more h]
  unfold addF
  by_cases c : x = (atA xs j).key
  · rw [if_pos c, if_pos c.symm]
  · rw [if_neg c, if_neg (fun e => c e.symm)]

theorem Bx5.news {w : World} {b : Nat} {i d c v r : Int} (h : Bx5 w b i d c v r) : ∀ j u, (Ap.row ⟨i, d, c, v, r⟩)[j]? = some u → w.cell? ((⟨b, 0, none⟩ : Addr).add j) = some u := by
  obtain ⟨h0, h1, h2, h3, h4⟩ := h
  intro j u hu
  rw [Go.WideShapes.add_plain, Nat.zero_add]
  unfold Ap.row at hu
  match j, hu with
  | 0, hu => simp at hu; rw [h0, hu]
  | 1, hu => simp at hu; rw [h1, hu]
  | 2, hu => simp at hu; rw [h2, hu]
  | 3, hu => simp at hu; rw [h3, hu]
  | 4, hu => simp at hu; rw [h4, hu]
  | n + 5, hu => simp at hu
theorem ne_of_own {w : World} {base b : Nat} {v : Value} {xs : List Ap} (h : OwnA w base v xs) (hb : b < base) : some b ≠ v.ownBlock := fun e => by
  unfold OwnA at h
  have := (h.lt b e.symm).1
  omega
theorem OwnA.low {w : World} {base : Nat} {v : Value} {xs : List Ap} (h : OwnA w base v xs) : ∀ k, v.ownBlock = some k → base ≤ k := fun k e => by
  unfold OwnA at h
  exact (h.lt k e).1

set_option maxHeartbeats 1000000 in
set_option maxRecDepth 100000 in
theorem inOrder_any (xs : List Ap) (v : Value) (w : World) (h : Aps w v xs) (hx : xs.length ≤ 100) (hw : ∀ a ∈ xs, wfK a.key) :
    Calls Try.prog 34 #[v] w fun e w' => ∃ u, e = .returned u ∧ OwnA w' w.heap.size u (ordA xs) ∧ Below w.heap.size w w' := by
  have hmm := @run_makeMap Try.prog
  obtain ⟨i0, hi, hz0, hz1, hz2⟩ := info_parts Try.infoItem
  obtain ⟨a0, ha, ha0, ha1, ha2⟩ := info_parts Try.infoApe
  have HA : Hid (Aps w v xs) := h
  obtain ⟨ad, cap, rfl, h1, h2, h0, h3⟩ := h.open
  have hgrp := Grp.start w (w.heap.size + 2)
  go_enter Try.func34, Try.ntmps34
  go_wp2_with (first
    | (at_make; refine wpList_make_full _ rfl _ _ 48 rfl (w.heap.size + 1) 50 i0 _ 2 Try.underlying48 hi hz0 hz1 .i64 .i64 xs.length xs.length xs.length rfl rfl rfl rfl (by rw [hz2]; omega) (by unfold maxLen; omega) (by simp) ?_; intro w1 hown hgrow))
  simp only [World.size_alloc] at hown
  have hs1 := hgrow.size
  rw [World.size_alloc] at hs1
  rw [show Value.cells (.agg #[.int .i64 0, .int .i64 0]) = #[.int .i64 0, .int .i64 0] from rfl, made_flat] at hown
  have H1 : Hid (Grp w1 (w.heap.size + 2) w.heap.size 0 (fun x => selA x (xs.take 0)) (.map []) (fun _ => .slice none 0 0) ∧ w1.ownsRow (w.heap.size + 1) 50 2 (.slice (some ⟨w.heap.size + 1, 0, none⟩) xs.length xs.length) xs.length (flat (keysA (xs.take 0) ++ List.replicate (xs.length - 0) (0, 0)))) := by
    refine ⟨hgrp.kept hgrow (by simp) (fun k hk => by cases hk), ?_⟩
    rw [Nat.sub_zero]
    exact hown
  have HB1 : Hid (Below w.heap.size w w1) := ((Below.refl _ _).alloc (Nat.le_refl _) _).grown hgrow (by simp) (by intro k hk; cases hk)
  have HW : Hid (∀ j, j < xs.length → wfK (atA xs j).key) := fun j hj => hw _ (atA_mem hj)
  clear hown hgrow hgrp hw h
  go_wp2_with fail
  go_loopw [17] (fun i wr => ∃ (j : Nat) (D : DataW Unit) (V : Int × Int → Value), j ≤ xs.length ∧ i = .int .i64 j ∧ Hid (Grp wr (w.heap.size + 2) w.heap.size j (fun x => selA x (xs.take j)) D V ∧ wr.ownsRow (w.heap.size + 1) 50 2 (.slice (some ⟨w.heap.size + 1, 0, none⟩) xs.length xs.length) xs.length (flat (keysA (xs.take j) ++ List.replicate (xs.length - j) (0, 0)))) ∧ Below w.heap.size w wr) (fun i _ => ((xs.length : Int) - intOf i).toNat)
  case atStart => exact ⟨0, _, _, by omega, rfl, H1.out, HB1.out⟩
  case round =>
    obtain ⟨j, D, V, hj, rfl, HG, hbw⟩ := hrel
    clear H1 HB1
    by_cases hlt : (j : Int) < xs.length
    · obtain ⟨bk, o, rfl, h4⟩ := h3 (by omega)
      obtain ⟨k0, k1, k2, k3, k4⟩ := h4 j (by omega)
      have c0 := cell_later hbw k0
      have c1 := cell_later hbw k1
      have c2 := cell_later hbw k2
      have c3 := cell_later hbw k3
      have c4 := cell_later hbw k4
      have sb : bk < w.heap.size := World.block_lt_of_cell? _ _ k0
      have sw := hbw.size
      clear h4 h3 k0 k1 k2 k3 k4
      have hI := HG.out.2
      have hfl := flat_at (keysA (xs.take j) ++ List.replicate (xs.length - j) (0, 0)) j (by simp [keysA_len]; omega)
      have i0' := (hI.cellAt (j * 2) (by omega)).trans hfl.1
      have i1' := (hI.cellAt (j * 2 + 1) (by omega)).trans hfl.2
      have g0 := hI.frozenAt (j * 2)
      have g1 := hI.frozenAt (j * 2 + 1)
      have sI := (hI.lt (w.heap.size + 1) rfl).2
      have sI2 : w.heap.size + 1 < wr.heap.size + 1 := by omega
      have HK : Hid (wfK (atA xs j).key) := HW.out j (by omega)
      have HNX : Hid (∀ x, addF (fun x => selA x (xs.take j)) (atA xs j).key (atA xs j) x = selA x (xs.take (j + 1))) := addF_next (by omega)
      have HKX : Hid ((keysA (xs.take j) ++ List.replicate (xs.length - j) (0, 0)).set j (atA xs j).key = keysA (xs.take (j + 1)) ++ List.replicate (xs.length - (j + 1)) (0, 0)) := keys_next (by omega) rfl
      clear hI hfl
      generalize atA xs j = a at *
      obtain ⟨ii, dd, cc, vv, rr⟩ := a
      simp only at c0 c1 c2 c3 c4
      have HGX : Hid (wr.grownBy (((((wr.setCell ⟨w.heap.size + 1, j * 2, none⟩ (.int .i64 dd)).setCell ⟨w.heap.size + 1, j * 2 + 1, none⟩ (.int .i64 ii)).alloc (.cells #[.int .i64 ii, .int .i64 dd, .int .i64 cc, .int .i64 vv, .int .i64 rr] 30)).alloc (.cells #[.int .i64 dd, .int .i64 ii] 50)).alloc (.cells #[.int .i64 ii, .int .i64 dd, .int .i64 cc, .int .i64 vv, .int .i64 rr] 30)) (some (w.heap.size + 1))) :=
        ((((setCell_grown wr (w.heap.size + 1) (j * 2) _).trans (setCell_grown _ _ _ _)).trans (World.grownBy_alloc _ _ _)).trans (World.grownBy_alloc _ _ _)).trans (World.grownBy_alloc _ _ _)
      have HE : Hid (Grp (((((wr.setCell ⟨w.heap.size + 1, j * 2, none⟩ (.int .i64 dd)).setCell ⟨w.heap.size + 1, j * 2 + 1, none⟩ (.int .i64 ii)).alloc (.cells #[.int .i64 ii, .int .i64 dd, .int .i64 cc, .int .i64 vv, .int .i64 rr] 30)).alloc (.cells #[.int .i64 dd, .int .i64 ii] 50)).alloc (.cells #[.int .i64 ii, .int .i64 dd, .int .i64 cc, .int .i64 vv, .int .i64 rr] 30)) (w.heap.size + 2) w.heap.size j (fun x => selA x (xs.take j)) D V) := HG.out.1.kept HGX.out (by simp) (fun k hk => by cases hk; omega)
      have HX5 : Hid (Bx5 (((((wr.setCell ⟨w.heap.size + 1, j * 2, none⟩ (.int .i64 dd)).setCell ⟨w.heap.size + 1, j * 2 + 1, none⟩ (.int .i64 ii)).alloc (.cells #[.int .i64 ii, .int .i64 dd, .int .i64 cc, .int .i64 vv, .int .i64 rr] 30)).alloc (.cells #[.int .i64 dd, .int .i64 ii] 50)).alloc (.cells #[.int .i64 ii, .int .i64 dd, .int .i64 cc, .int .i64 vv, .int .i64 rr] 30)) (wr.heap.size + 1 + 1) ii dd cc vv rr) := by
        have := Bx5.new ((((wr.setCell ⟨w.heap.size + 1, j * 2, none⟩ (.int .i64 dd)).setCell ⟨w.heap.size + 1, j * 2 + 1, none⟩ (.int .i64 ii)).alloc (.cells #[.int .i64 ii, .int .i64 dd, .int .i64 cc, .int .i64 vv, .int .i64 rr] 30)).alloc (.cells #[.int .i64 dd, .int .i64 ii] 50)) ii dd cc vv rr 30
        simp only [World.size_alloc, World.size_setCell] at this
        exact this
      have HI : Hid (OwnI (((((wr.setCell ⟨w.heap.size + 1, j * 2, none⟩ (.int .i64 dd)).setCell ⟨w.heap.size + 1, j * 2 + 1, none⟩ (.int .i64 ii)).alloc (.cells #[.int .i64 ii, .int .i64 dd, .int .i64 cc, .int .i64 vv, .int .i64 rr] 30)).alloc (.cells #[.int .i64 dd, .int .i64 ii] 50)).alloc (.cells #[.int .i64 ii, .int .i64 dd, .int .i64 cc, .int .i64 vv, .int .i64 rr] 30)) (w.heap.size + 1) xs.length (keysA (xs.take (j + 1)) ++ List.replicate (xs.length - (j + 1)) (0, 0))) := by
        have := ((((HG.out.2.stored (j * 2) (.int .i64 dd)).1.stored (j * 2 + 1) (.int .i64 ii)).1.alloc (.cells #[.int .i64 ii, .int .i64 dd, .int .i64 cc, .int .i64 vv, .int .i64 rr] 30)).alloc (.cells #[.int .i64 dd, .int .i64 ii] 50)).alloc (.cells #[.int .i64 ii, .int .i64 dd, .int .i64 cc, .int .i64 vv, .int .i64 rr] 30)
        rw [← HKX.out]
        show World.ownsRow _ _ _ _ _ _ _
        rw [flat_set]
        exact this
      have HBE : Hid (Below w.heap.size w (((((wr.setCell ⟨w.heap.size + 1, j * 2, none⟩ (.int .i64 dd)).setCell ⟨w.heap.size + 1, j * 2 + 1, none⟩ (.int .i64 ii)).alloc (.cells #[.int .i64 ii, .int .i64 dd, .int .i64 cc, .int .i64 vv, .int .i64 rr] 30)).alloc (.cells #[.int .i64 dd, .int .i64 ii] 50)).alloc (.cells #[.int .i64 ii, .int .i64 dd, .int .i64 cc, .int .i64 vv, .int .i64 rr] 30))) := hbw.grown HGX.out sw (fun k hk => by cases hk; omega)
      have HSZ : Hid (wr.heap.size ≤ ((((((wr.setCell ⟨w.heap.size + 1, j * 2, none⟩ (.int .i64 dd)).setCell ⟨w.heap.size + 1, j * 2 + 1, none⟩ (.int .i64 ii)).alloc (.cells #[.int .i64 ii, .int .i64 dd, .int .i64 cc, .int .i64 vv, .int .i64 rr] 30)).alloc (.cells #[.int .i64 dd, .int .i64 ii] 50)).alloc (.cells #[.int .i64 ii, .int .i64 dd, .int .i64 cc, .int .i64 vv, .int .i64 rr] 30))).heap.size) := HGX.out.size
      clear HGX HG hbw
      go_wp2_with (first
        | (refine wpList_mapEntryS rfl _ _ rfl w.heap.size j D V rfl HE.out.own HE.out.hold (dd, ii) HK.out (by unfold maxLen; omega) rfl ?_; intro st w1 hg1 hs1' hback)
        | (at_builtin; refine wpList_append_own_at _ rfl _ _ 22 rfl (w.heap.size + 2) 30 a0 _ 5 40 Try.underlying22 ha ha0 ha1 ha2 rfl (by decide) (V (dd, ii)) _ _ rfl ((HE.out.rows (dd, ii)).kept hg1 (fun k hk => by cases hk; omega)) ⟨wr.heap.size + 1 + 1, 0, none⟩ 1 1 (Ap.row ⟨ii, dd, cc, vv, rr⟩) rfl rfl (HX5.out.kept hg1 (by simp; omega)).news (recA.one ⟨ii, dd, cc, vv, rr⟩) (by have := selA_len (dd, ii) (xs.take j); rw [List.length_take] at this; unfold maxLen; omega) (by have := selA_len (dd, ii) (xs.take j); rw [List.length_take] at this; omega) (by have := hg1.size; have := HSZ.out; omega) ?_; intro v' w2 hown2 hg2 _ hat2
           have hv2 : OwnA w2 (w.heap.size + 2) v' (selA (dd, ii) (xs.take j) ++ [⟨ii, dd, cc, vv, rr⟩]) := by unfold OwnA; rw [List.length_append, flatA_app, flatA_one]; exact hown2
           have ne2 := ne_of_own (HE.out.rows (dd, ii)) (show w.heap.size < w.heap.size + 2 by omega)
           obtain ⟨d2, hd2⟩ := hv2.enc
           obtain ⟨w3, hr3, hg3, hs3, ho3⟩ := hback w2 v' d2 (hg2.block _ (by have := hg1.size; have := HSZ.out; omega) ne2) hd2)
        | (refine wpList_entryStoreS rfl _ _ _ _ rfl w.heap.size st v' w3 rfl rfl rfl hr3 ?_))
      have HN : Hid (Grp w3 (w.heap.size + 2) w.heap.size (j + 1) (fun x => selA x (xs.take (j + 1))) (D.put (keyL (dd, ii)) d2) (putV V (dd, ii) v')) := (Grp.next HE.out (by omega) HK.out hg1 hg1.size hg2 hv2 hat2 hg3 ho3 hd2).congr HNX.out
      have HI3 : Hid (OwnI w3 (w.heap.size + 1) xs.length (keysA (xs.take (j + 1)) ++ List.replicate (xs.length - (j + 1)) (0, 0))) := ((HI.out.kept hg1 (by simp)).kept hg2 (ne_of_own (HE.out.rows (dd, ii)) (by omega))).kept hg3 (by simp)
      have hz1 := hg1.size
      have hz2 := hg2.size
      have hz0 := HSZ.out
      have HB3 : Hid (Below w.heap.size w w3) := ((HBE.out.grown hg1 (by omega) (fun k hk => by cases hk; omega)).grown hg2 (by omega) (fun k hk => by have := (HE.out.rows (dd, ii)).low k hk; omega)).grown hg3 (by omega) (fun k hk => by cases hk; omega)
      clear hz0 hz1 hz2 hg1 hg2 hg3 hs3 ho3 hs1' hback hown2 hat2 hv2 ne2 hd2 hr3 HE HX5 HI HBE HSZ HNX HKX HK
      go_wp2_with fail
      go_roundw
      case rel => exact ⟨j + 1, _, _, by omega, by go_num, ⟨HN.out, HI3.out⟩, HB3.out⟩
      case measure => simp [intOf]; omega
    · obtain rfl : j = xs.length := by omega
      have HG2 : Hid (Grp wr (w.heap.size + 2) w.heap.size xs.length (fun x => selA x ((ordA xs).drop 0)) D V) := HG.out.1.congr (fun x => by rw [List.take_length, List.drop_zero, selA_ord])
      have HI2 : Hid (OwnI wr (w.heap.size + 1) xs.length (keysA xs)) := by
        have := HG.out.2
        rw [List.take_length, Nat.sub_self] at this
        simp only [List.replicate_zero, List.append_nil] at this
        exact this
      clear HG h3
      have sw := hbw.size
      go_wp2_with (first
        | (at_make; refine wpList_make_full _ rfl _ _ 22 rfl wr.heap.size 30 a0 _ 5 Try.underlying22 ha ha0 ha1 .i64 .i64 xs.length xs.length xs.length rfl rfl rfl rfl (by rw [ha2]; omega) (by unfold maxLen; omega) (Nat.le_refl _) ?_; intro w5 hown5 hg5))
      skip
      rw [show Value.cells (.agg #[.int .i64 0, .int .i64 0, .int .i64 0, .int .i64 0, .int .i64 0]) = #[.int .i64 0, .int .i64 0, .int .i64 0, .int .i64 0, .int .i64 0] from rfl, show xs.length * 5 = xs.length * recA.K from rfl, made_flatR (R := recA) (x := apZ) (z := #[.int .i64 0, .int .i64 0, .int .i64 0, .int .i64 0, .int .i64 0]) rfl] at hown5
      have hs5 := hown5.lt wr.heap.size rfl
      have HI5 : Hid (Its w5 (.slice (some ⟨w.heap.size + 1, 0, none⟩) xs.length xs.length) (keysA xs)) := (Its.own (HI2.out.kept hg5 (by simp))).1
      refine (sort_any (keysA xs) _ w5 HI5.out (by rw [keysA_len]; omega)).mono ?_
      rintro e w6 ⟨u, rfl, hu, hb6⟩
      rw [← ordA_keys, keysA_len, ordA_len] at hu
      have hlen : (keysA (ordA xs)).length = xs.length := by rw [keysA_len, ordA_len]
      obtain ⟨au, capu, rfl, hl1, hl2, hl0, hl3⟩ := (Its.own hu).1
      rw [hlen] at hl1 hu
      rw [hlen]
      have H6 : Hid (Tak wr w6 w.heap.size wr.heap.size xs.length xs.length (.slice au xs.length capu) (ordA xs) 0 0 D V) := by
        have hg56 : wr.grownBy w6 (some w.heap.size) := ⟨hb6.os.trans hg5.os, hb6.tape.trans hg5.tape, hb6.output.trans hg5.output, Nat.le_trans hg5.size hb6.size, fun k hk _ => (hb6.block k (by omega)).trans (hg5.block k hk (by simp))⟩
        have hgm : w5.grownBy w6 none := ⟨hb6.os, hb6.tape, hb6.output, hb6.size, fun k hk _ => hb6.block k hk⟩
        refine ⟨(HG2.out.own.kept hg5 (by simp)).kept hgm (by simp), HG2.out.hold, fun x => (HG2.out.rows x).aps, hg56, ?_, own_low hu (by omega), ?_⟩
        · unfold OwnR
          rw [flatR_congr (R := recA) (f := toR apZ 0 (atA (ordA xs))) (g := fun _ => apZ) (fun i _ => if_neg (Nat.not_lt_zero _))]
          exact own_laterF hown5 hb6
        · obtain ⟨es, clock, hh, _⟩ := HG2.out.own
          exact ⟨es, clock, hh⟩
      have HBW : Hid (Below w.heap.size w wr) := hbw
      clear hown5 hg5 hs5 HI5 HI2 HG2 hu hb6 hl3 hl0 hbw
      go_wp2_with fail
      generalize hwr : wr = wq at *
      clear hwr
      go_loopw [46] (fun i wr => ∃ (j m : Nat) (D : DataW Unit) (V : Int × Int → Value), j ≤ xs.length ∧ m ≤ xs.length + j ∧ i = .int .i64 j ∧ Hid (Tak wq wr w.heap.size wq.heap.size xs.length m (.slice au xs.length capu) (ordA xs) j j D V) ∧ wq.heap.size + 1 ≤ wr.heap.size) (fun i _ => ((xs.length : Int) - intOf i).toNat)
      case atStart => exact ⟨0, xs.length, _, _, by omega, by omega, rfl, H6.out, by have := (H6.out.sorted : World.ownsRow _ _ _ _ _ _ _).lt wq.heap.size rfl; omega⟩
      case round =>
        clear H6 D V
        obtain ⟨j, m, D, V, hj, hm, rfl, HT, hsz⟩ := hrel
        by_cases hlt : (j : Int) < xs.length
        · have hjL : j < (ordA xs).length := by rw [ordA_len]; omega
          obtain ⟨au', cap', e', _, _, _, h4⟩ := (Its.own HT.out.keys).1
          rw [hlen] at e'
          simp only [Value.slice.injEq, true_and] at e'
          obtain ⟨rfl, rfl⟩ := e'
          obtain ⟨bu, ou, rfl, h5⟩ := h4 (by intro e; rw [e] at hlen; simp at hlen; omega)
          obtain ⟨k0, k1⟩ := h5 j (by omega)
          rw [atA_key hjL] at k0 k1
          have hsel : selA (atA (ordA xs) j).key ((ordA xs).drop j) = atA (ordA xs) j :: selA (atA (ordA xs) j).key ((ordA xs).drop (j + 1)) := by rw [selA_next hjL, if_pos rfl]
          have HO : Hid (∀ x, x ≠ (atA (ordA xs) j).key → selA x ((ordA xs).drop j) = selA x ((ordA xs).drop (j + 1))) := fun x hx => by rw [selA_next hjL, if_neg (fun e => hx e.symm)]
          have HK : Hid (wfK (atA (ordA xs) j).key) := by
            have hm1 := (ordA_perm xs).mem_iff.1 (atA_mem hjL)
            obtain ⟨t, ht, et⟩ := List.getElem_of_mem hm1
            have := HW.out t ht
            rw [atA_of (List.getElem?_eq_getElem ht), et] at this
            exact this
          have hA := HT.out.rows (atA (ordA xs) j).key
          rw [hsel] at hA
          obtain ⟨av, capv, ev, v1, v2, _, v4⟩ := hA.open
          obtain ⟨bv, ov, rfl, v5⟩ := v4 (by simp)
          obtain ⟨z0, z1, z2, z3, z4⟩ := v5 0 (by simp)
          simp only [Nat.zero_mul, Nat.add_zero, atA, List.getD_cons_zero] at z0 z1 z2 z3 z4
          clear v5 v4 h4 h5
          change wq.cell? _ = some (.int .i64 (atA (ordA xs) j).id) at z0
          change wq.cell? _ = some (.int .i64 (atA (ordA xs) j).due) at z1
          change wq.cell? _ = some (.int .i64 (atA (ordA xs) j).c) at z2
          change wq.cell? _ = some (.int .i64 (atA (ordA xs) j).v) at z3
          change wq.cell? _ = some (.int .i64 (atA (ordA xs) j).r) at z4
          have hne := not_map HT.out.isMap z0
          have hlv : bv < wq.heap.size := World.block_lt_of_cell? _ _ z0
          have y0 := cell_grown HT.out.grow (by simp; omega) z0
          have y1 := cell_grown HT.out.grow (by simp; omega) z1
          have y2 := cell_grown HT.out.grow (by simp; omega) z2
          have y3 := cell_grown HT.out.grow (by simp; omega) z3
          have y4 := cell_grown HT.out.grow (by simp; omega) z4
          have HSO : Hid (OwnR recA wr wq.heap.size 30 (.slice (some ⟨wq.heap.size, 0, none⟩) xs.length xs.length) xs.length (toR apZ j (atA (ordA xs)))) := HT.out.sorted
          have s0 := HSO.out.cell (i := j) (j := 0) (by omega) (by decide)
          have s1 := HSO.out.cell (i := j) (j := 1) (by omega) (by decide)
          have s2 := HSO.out.cell (i := j) (j := 2) (by omega) (by decide)
          have s3 := HSO.out.cell (i := j) (j := 3) (by omega) (by decide)
          have s4 := HSO.out.cell (i := j) (j := 4) (by omega) (by decide)
          have ht : toR apZ j (atA (ordA xs)) j = apZ := if_neg (Nat.lt_irrefl j)
          rw [ht] at s0 s1 s2 s3 s4
          obtain ⟨s0, f0⟩ := s0
          obtain ⟨s1, f1⟩ := s1
          obtain ⟨s2, f2⟩ := s2
          obtain ⟨s3, f3⟩ := s3
          obtain ⟨s4, f4⟩ := s4
          change wr.cell? ⟨wq.heap.size, j * 5, none⟩ = some (.int .i64 0) at s0
          change wr.cell? ⟨wq.heap.size, j * 5 + 1, none⟩ = some (.int .i64 0) at s1
          change wr.cell? ⟨wq.heap.size, j * 5 + 2, none⟩ = some (.int .i64 0) at s2
          change wr.cell? ⟨wq.heap.size, j * 5 + 3, none⟩ = some (.int .i64 0) at s3
          change wr.cell? ⟨wq.heap.size, j * 5 + 4, none⟩ = some (.int .i64 0) at s4
          change wr.frozen? ⟨wq.heap.size, j * 5, none⟩ = false at f0
          change wr.frozen? ⟨wq.heap.size, j * 5 + 1, none⟩ = false at f1
          change wr.frozen? ⟨wq.heap.size, j * 5 + 2, none⟩ = false at f2
          change wr.frozen? ⟨wq.heap.size, j * 5 + 3, none⟩ = false at f3
          change wr.frozen? ⟨wq.heap.size, j * 5 + 4, none⟩ = false at f4
          have HAA : Hid (Aps wq (V (atA (ordA xs) j).key) (atA (ordA xs) j :: selA (atA (ordA xs) j).key ((ordA xs).drop (j + 1)))) := hA
          have HST : Hid (∀ i, upR (toR apZ j (atA (ordA xs))) j (atA (ordA xs) j) i = toR apZ (j + 1) (atA (ordA xs)) i) := toR_step apZ j (atA (ordA xs))
          clear z0 z1 z2 z3 z4 ht hA hsel
          obtain ⟨q, hq⟩ : ∃ q, (selA (atA (ordA xs) j).key ((ordA xs).drop (j + 1))).length = q := ⟨_, rfl⟩
          rw [List.length_cons, hq] at v1 ev
          have HQ : Hid ((selA (atA (ordA xs) j).key ((ordA xs).drop (j + 1))).length = q) := hq
          clear hq
          generalize atA (ordA xs) j = a at *
          obtain ⟨ii, dd, cc, vv, rr⟩ := a
          simp only at y0 y1 y2 y3 y4
          simp only [Ap.key] at k0 k1
          have hbx : wr.heap.size ≠ w.heap.size := by have := sw; omega
          have x0 : (wr.alloc (.cells #[.int .i64 dd, .int .i64 ii] 50)).cell? ⟨wr.heap.size, 0, none⟩ = some (.int .i64 dd) := by simp
          have x1 : (wr.alloc (.cells #[.int .i64 dd, .int .i64 ii] 50)).cell? ⟨wr.heap.size, 1, none⟩ = some (.int .i64 ii) := by simp
          have bel := (Below.refl wr.heap.size wr).alloc (Nat.le_refl _) (.cells #[.int .i64 dd, .int .i64 ii] 50)
          have hgW : wr.grownBy (wr.alloc (.cells #[.int .i64 dd, .int .i64 ii] 50)).drew none := grown_then (World.grownBy_alloc _ _ _) (grown_drew _)
          have HTW : Hid (Tak wq (wr.alloc (.cells #[.int .i64 dd, .int .i64 ii] 50)).drew w.heap.size wq.heap.size xs.length m (.slice (some ⟨bu, ou, none⟩) xs.length capu) (ordA xs) j j D V) := HT.out.kept hgW
          have HFX : Hid (∀ W0 : World, W0 = (wr.alloc (.cells #[.int .i64 dd, .int .i64 ii] 50)).drew →
              (W0.cell? ⟨wr.heap.size, 0, none⟩ = some (.int .i64 dd) ∧ W0.cell? ⟨wr.heap.size, 1, none⟩ = some (.int .i64 ii)) ∧
              (W0.cell? ⟨bv, ov, none⟩ = some (.int .i64 ii) ∧ W0.cell? ⟨bv, ov + 1, none⟩ = some (.int .i64 dd) ∧ W0.cell? ⟨bv, ov + 2, none⟩ = some (.int .i64 cc) ∧ W0.cell? ⟨bv, ov + 3, none⟩ = some (.int .i64 vv) ∧ W0.cell? ⟨bv, ov + 4, none⟩ = some (.int .i64 rr)) ∧
              (W0.cell? ⟨wq.heap.size, j * 5, none⟩ = some (.int .i64 0) ∧ W0.cell? ⟨wq.heap.size, j * 5 + 1, none⟩ = some (.int .i64 0) ∧ W0.cell? ⟨wq.heap.size, j * 5 + 2, none⟩ = some (.int .i64 0) ∧ W0.cell? ⟨wq.heap.size, j * 5 + 3, none⟩ = some (.int .i64 0) ∧ W0.cell? ⟨wq.heap.size, j * 5 + 4, none⟩ = some (.int .i64 0)) ∧
              (W0.frozen? ⟨wq.heap.size, j * 5, none⟩ = false ∧ W0.frozen? ⟨wq.heap.size, j * 5 + 1, none⟩ = false ∧ W0.frozen? ⟨wq.heap.size, j * 5 + 2, none⟩ = false ∧ W0.frozen? ⟨wq.heap.size, j * 5 + 3, none⟩ = false ∧ W0.frozen? ⟨wq.heap.size, j * 5 + 4, none⟩ = false)) := by
            rintro W0 rfl
            have hn : ∀ k : Nat, some k ≠ (none : Option Nat) := fun k => by simp
            exact ⟨⟨x0, x1⟩, ⟨cell_grown hgW (hn _) y0, cell_grown hgW (hn _) y1, cell_grown hgW (hn _) y2, cell_grown hgW (hn _) y3, cell_grown hgW (hn _) y4⟩, ⟨cell_grown hgW (hn _) s0, cell_grown hgW (hn _) s1, cell_grown hgW (hn _) s2, cell_grown hgW (hn _) s3, cell_grown hgW (hn _) s4⟩,
              frozen_grown hgW (hn _) s0 f0, frozen_grown hgW (hn _) s1 f1, frozen_grown hgW (hn _) s2 f2, frozen_grown hgW (hn _) s3 f3, frozen_grown hgW (hn _) s4 f4⟩
          have HGS : Hid (wq.heap.size + 1 ≤ wr.heap.size ∧ wr.heap.size < (wr.alloc (.cells #[.int .i64 dd, .int .i64 ii] 50)).drew.heap.size) := ⟨hsz, by show _ < (wr.alloc _).heap.size; simp⟩
          go_wp2_with fail
          clear x0 x1 y0 y1 y2 y3 y4 s0 s1 s2 s3 s4 f0 f1 f2 f3 f4 k0 k1 bel hgW HT HSO
          obtain ⟨W, hW⟩ : ∃ W, wr.alloc (.cells #[.int .i64 dd, .int .i64 ii] 50) = W := ⟨_, rfl⟩
          rw [hW] at HTW HFX HGS ⊢
          clear hW
          obtain ⟨W0, hW0⟩ : ∃ W0, W.drew = W0 := ⟨_, rfl⟩
          obtain ⟨⟨x0, x1⟩, ⟨y0, y1, y2, y3, y4⟩, ⟨s0, s1, s2, s3, s4⟩, f0, f1, f2, f3, f4⟩ := HFX.out W0 hW0.symm
          rw [hW0] at HTW HGS
          have hlk := lookS HTW.out.own HTW.out.hold HK.out
          rw [ev] at hlk
          change (Instr.lookup 58 (.map (some w.heap.size)) (.agg #[.int .i64 dd, .int .i64 ii]) false).run Try.prog W0 = _ at hlk
          clear HFX
          have HATJ : Hid (∀ i, upR (toR apZ j (atA (ordA xs))) j ⟨ii, dd, cc, vv, rr⟩ i = toR apZ (j + 1) (atA (ordA xs)) i) := HST.out
          obtain ⟨sg1, sg2⟩ := HGS.out
          have hbg : w.heap.size < wq.heap.size := by obtain ⟨es, ck, hh⟩ := HTW.out.isMap; exact (Array.getElem?_eq_some_iff.1 hh).1
          have hq1 : (1 : Int) ≤ (q : Int) + 1 := by omega
          have HD2 : Hid (∃ d, encS (.slice (if capv = 1 then some ⟨bv, ov, none⟩ else some ⟨bv, ov + 5, none⟩) q (capv - 1)) = some (d, [])) := by
            show ∃ d, _
            split
            · exact ⟨_, rfl⟩
            · exact ⟨_, rfl⟩
          have HTL : Hid (Aps wq (.slice (if capv = 1 then some ⟨bv, ov, none⟩ else some ⟨bv, ov + 5, none⟩) q (capv - 1)) (selA (dd, ii) ((ordA xs).drop (j + 1)))) := by
            have hr : Rws recA wq _ _ _ := HAA.out
            have e1 : V (Ap.key ⟨ii, dd, cc, vv, rr⟩) = .slice (some ⟨bv, ov, none⟩) (q + 1) capv := ev
            rw [e1, List.length_cons, HQ.out] at hr
            show Rws recA _ _ _ _
            rw [show (selA (dd, ii) ((ordA xs).drop (j + 1))).length = q from HQ.out]
            split
            · next hc => exact Rws.zero (by omega) (by omega) (by omega)
            · have := Rws.tail (R := recA) (t := 1) hr (by omega)
              exact this.congr (fun i hi => by unfold atA; simp [Nat.add_comm 1 i]; rfl)
          refine wp_region_held_drew (S := (fun w' : World => (w'.cell? ⟨wr.heap.size, 0, none⟩ = some (.int .i64 dd) ∧ w'.cell? ⟨wr.heap.size, 1, none⟩ = some (.int .i64 ii)) ∧ (w'.cell? ⟨bv, ov, none⟩ = some (.int .i64 ii) ∧ w'.cell? ⟨bv, ov + 1, none⟩ = some (.int .i64 dd) ∧ w'.cell? ⟨bv, ov + 2, none⟩ = some (.int .i64 cc) ∧ w'.cell? ⟨bv, ov + 3, none⟩ = some (.int .i64 vv) ∧ w'.cell? ⟨bv, ov + 4, none⟩ = some (.int .i64 rr)))) (by kernel_rfl) ?_ (fun hHeld => ?_)
          · rw [hW0]; exact ⟨⟨x0, x1⟩, y0, y1, y2, y3, y4⟩
          rw [hW0] at hHeld ⊢
          clear hW0 W
          refine wpAnyH_take (i := 0) (oi := { dst := some 51, op := Op.move (Operand.tmp 8), type := 22, pos := _, after := _, guard := none }) (v := ?_) rfl (by kernel_rfl) (by kernel_rfl) (by kernel_rfl) (fun _ _ _ h => h) (Or.inl ⟨by rfl, ?_⟩) (by assumption) ?_
          rotate_left
          · intro wS hSw; (try dsimp only at hSw); go_simp; first | done | with_reducible rfl
          try simp only [Act.put, List.setIfInBounds_toArray, List.set_cons_zero, List.set_cons_succ]
          refine wpAnyH_take (i := 1) (oi := { dst := some 52, op := Op.move (Operand.tmp 9), type := 3, pos := _, after := _, guard := none }) (v := ?_) rfl (by kernel_rfl) (by kernel_rfl) (by kernel_rfl) (fun _ _ _ h => h) (Or.inl ⟨by rfl, ?_⟩) (by assumption) ?_
          rotate_left
          · intro wS hSw; (try dsimp only at hSw); go_simp; first | done | with_reducible rfl
          try simp only [Act.put, List.setIfInBounds_toArray, List.set_cons_zero, List.set_cons_succ]
          refine wpAnyH_take (i := 2) (oi := { dst := some 53, op := Op.move (Operand.tmp 3), type := 58, pos := _, after := _, guard := none }) (v := ?_) rfl (by kernel_rfl) (by kernel_rfl) (by kernel_rfl) (fun _ _ _ h => h) (Or.inl ⟨by rfl, ?_⟩) (by assumption) ?_
          rotate_left
          · intro wS hSw; (try dsimp only at hSw); go_simp; first | done | with_reducible rfl
          try simp only [Act.put, List.setIfInBounds_toArray, List.set_cons_zero, List.set_cons_succ]
          refine wpAnyH_take (i := 3) (oi := { dst := some 54, op := Op.load 50 (Operand.tmp 10), type := 50, pos := _, after := _, guard := none }) (v := ?_) rfl (by kernel_rfl) (by kernel_rfl) (by kernel_rfl) (fun _ _ _ h => h) (Or.inl ⟨by rfl, ?_⟩) (by assumption) ?_
          rotate_left
          · intro wS hSw; (try dsimp only at hSw); go_simp; first | done | with_reducible rfl
          try simp only [Act.put, List.setIfInBounds_toArray, List.set_cons_zero, List.set_cons_succ]
          refine wpAnyH_take (i := 4) (oi := { dst := some 55, op := Op.move (Operand.tmp 3), type := 58, pos := _, after := _, guard := none }) (v := ?_) rfl (by kernel_rfl) (by kernel_rfl) (by kernel_rfl) (fun _ _ _ h => h) (Or.inl ⟨by rfl, ?_⟩) (by assumption) ?_
          rotate_left
          · intro wS hSw; (try dsimp only at hSw); go_simp; first | done | with_reducible rfl
          try simp only [Act.put, List.setIfInBounds_toArray, List.set_cons_zero, List.set_cons_succ]
          refine wpAnyH_take (i := 5) (oi := { dst := some 56, op := Op.load 50 (Operand.tmp 10), type := 50, pos := _, after := _, guard := none }) (v := ?_) rfl (by kernel_rfl) (by kernel_rfl) (by kernel_rfl) (fun _ _ _ h => h) (Or.inl ⟨by rfl, ?_⟩) (by assumption) ?_
          rotate_left
          · intro wS hSw; (try dsimp only at hSw); go_simp; first | done | with_reducible rfl
          try simp only [Act.put, List.setIfInBounds_toArray, List.set_cons_zero, List.set_cons_succ]
          refine wpAnyH_take (i := 9) (oi := { dst := some 60, op := Op.move (Operand.tmp 3), type := 58, pos := _, after := _, guard := none }) (v := ?_) rfl (by kernel_rfl) (by kernel_rfl) (by kernel_rfl) (fun _ _ _ h => h) (Or.inl ⟨by rfl, ?_⟩) (by assumption) ?_
          rotate_left
          · intro wS hSw; (try dsimp only at hSw); go_simp; first | done | with_reducible rfl
          try simp only [Act.put, List.setIfInBounds_toArray, List.set_cons_zero, List.set_cons_succ]
          refine wpAnyH_take (i := 10) (oi := { dst := some 61, op := Op.load 50 (Operand.tmp 10), type := 50, pos := _, after := _, guard := none }) (v := ?_) rfl (by kernel_rfl) (by kernel_rfl) (by kernel_rfl) (fun _ _ _ h => h) (Or.inl ⟨by rfl, ?_⟩) (by assumption) ?_
          rotate_left
          · intro wS hSw; (try dsimp only at hSw); go_simp; first | done | with_reducible rfl
          try simp only [Act.put, List.setIfInBounds_toArray, List.set_cons_zero, List.set_cons_succ]
          refine wpAnyH_ready (rs := [6, 11]) (by kernel_rfl) (by simp) ?_
          refine AllReadyH.cons (o := { dst := some 57, op := Op.lookup 58 (Operand.tmp 55) (Operand.tmp 56) false, type := 22, pos := _, after := _, guard := none }) rfl (fun K hK => ?_) (AllReadyH.cons (o := { dst := some 62, op := Op.lookup 58 (Operand.tmp 60) (Operand.tmp 61) false, type := 22, pos := _, after := _, guard := none }) rfl (fun K hK => ?_) (AllReadyH.nil))
          · go_simp
            refine hK.out _ _ hHeld (fun hHeld => ?_)
            clear hK K
            try simp only [Act.put, List.setIfInBounds_toArray, List.set_cons_zero, List.set_cons_succ]
            refine wpAnyH_take (i := 7) (oi := { dst := some 58, op := Op.indexAddr 22 (Operand.tmp 57) (Operand.const (Value.int IntKind.i64 0)), type := 0, pos := _, after := _, guard := none }) (v := ?_) rfl (by kernel_rfl) (by kernel_rfl) (by kernel_rfl) (fun _ _ _ h => h) (Or.inl ⟨by rfl, ?_⟩) (by assumption) ?_
            rotate_left
            · intro wS hSw; (try dsimp only at hSw); go_simp; first | done | with_reducible rfl
            try simp only [Act.put, List.setIfInBounds_toArray, List.set_cons_zero, List.set_cons_succ]
            refine wpAnyH_take (i := 8) (oi := { dst := some 59, op := Op.load 30 (Operand.tmp 58), type := 30, pos := _, after := _, guard := none }) (v := ?_) rfl (by kernel_rfl) (by kernel_rfl) (by kernel_rfl) (fun _ _ _ h => h) (Or.inl ⟨by rfl, ?_⟩) (by assumption) ?_
            rotate_left
            · intro wS hSw; (try dsimp only at hSw); go_simp; first | done | with_reducible rfl
            try simp only [Act.put, List.setIfInBounds_toArray, List.set_cons_zero, List.set_cons_succ]
            refine wpAnyH_ready (rs := [11]) (by kernel_rfl) (by simp) ?_
            refine AllReadyH.cons (o := { dst := some 62, op := Op.lookup 58 (Operand.tmp 60) (Operand.tmp 61) false, type := 22, pos := _, after := _, guard := none }) rfl (fun K hK => ?_) (AllReadyH.nil)
            go_simp
            refine hK.out _ _ hHeld (fun hHeld => ?_)
            clear hK K
            try simp only [Act.put, List.setIfInBounds_toArray, List.set_cons_zero, List.set_cons_succ]
            refine wpAnyH_take (i := 12) (oi := { dst := some 63, op := Op.slice 22 (Operand.tmp 62) (some (Operand.const (Value.int IntKind.i64 1))) none none, type := 22, pos := _, after := _, guard := none }) (v := ?_) rfl (by kernel_rfl) (by kernel_rfl) (by kernel_rfl) (fun _ _ _ h => h) (Or.inl ⟨by rfl, ?_⟩) (by assumption) ?_
            rotate_left
            · intro wS hSw; (try dsimp only at hSw); go_simp; first | done | with_reducible rfl
            try simp only [Act.put, List.setIfInBounds_toArray, List.set_cons_zero, List.set_cons_succ]
            refine wpAnyH_take (i := 13) (oi := { dst := some 64, op := Op.indexAddr 22 (Operand.tmp 51) (Operand.tmp 52), type := 0, pos := _, after := _, guard := none }) (v := ?_) rfl (by kernel_rfl) (by kernel_rfl) (by kernel_rfl) (fun _ _ _ h => h) (Or.inl ⟨by rfl, ?_⟩) (by assumption) ?_
            rotate_left
            · intro wS hSw; (try dsimp only at hSw); go_simp; first | done | with_reducible rfl
            try simp only [Act.put, List.setIfInBounds_toArray, List.set_cons_zero, List.set_cons_succ]
            refine wpAnyH_ready (rs := [14]) (by kernel_rfl) (by simp) ?_
            refine AllReadyH.cons (o := { dst := none, op := Op.store 30 (Operand.tmp 64) (Operand.tmp 59), type := 0, pos := _, after := _, guard := none }) rfl (fun K hK => ?_) (AllReadyH.nil)
            go_simp
            have hg14 : W0.grownBy (((((W0.setCell ⟨wq.heap.size, j * 5, none⟩ (.int .i64 ii)).setCell ⟨wq.heap.size, j * 5 + 1, none⟩ (.int .i64 dd)).setCell ⟨wq.heap.size, j * 5 + 2, none⟩ (.int .i64 cc)).setCell ⟨wq.heap.size, j * 5 + 3, none⟩ (.int .i64 vv)).setCell ⟨wq.heap.size, j * 5 + 4, none⟩ (.int .i64 rr)) (some wq.heap.size) := ((((setCell_grown W0 _ _ _).trans (setCell_grown _ _ _ _)).trans (setCell_grown _ _ _ _)).trans (setCell_grown _ _ _ _)).trans (setCell_grown _ _ _ _)
            have hT14 := HTW.out.store (by omega) HATJ.out (by omega) (Nat.le_refl _) hg14
            obtain ⟨W4, hW4⟩ : ∃ W4, (((((W0.setCell ⟨wq.heap.size, j * 5, none⟩ (.int .i64 ii)).setCell ⟨wq.heap.size, j * 5 + 1, none⟩ (.int .i64 dd)).setCell ⟨wq.heap.size, j * 5 + 2, none⟩ (.int .i64 cc)).setCell ⟨wq.heap.size, j * 5 + 3, none⟩ (.int .i64 vv)).setCell ⟨wq.heap.size, j * 5 + 4, none⟩ (.int .i64 rr)) = W4 := ⟨_, rfl⟩
            rw [hW4] at hg14 hT14 ⊢
            clear hW4
            have x0 := cell_grown hg14 (by simp; omega) x0
            have x1 := cell_grown hg14 (by simp; omega) x1
            have y0 := cell_grown hg14 (by simp; omega) y0
            have y1 := cell_grown hg14 (by simp; omega) y1
            have y2 := cell_grown hg14 (by simp; omega) y2
            have y3 := cell_grown hg14 (by simp; omega) y3
            have y4 := cell_grown hg14 (by simp; omega) y4
            refine hK.out _ _ ⟨⟨x0, x1⟩, y0, y1, y2, y3, y4⟩ (fun hHeld => ?_)
            clear hK K
            try simp only [Act.put, List.setIfInBounds_toArray, List.set_cons_zero, List.set_cons_succ]
            obtain ⟨st, w15, hr15, hg15, hs15, hback⟩ := entryS hT14.own hT14.hold HK.out (by unfold maxLen; omega)
            rw [ev] at hr15
            change (Instr.mapEntry 58 (.map (some w.heap.size)) (.agg #[.int .i64 dd, .int .i64 ii])).run Try.prog W4 = .ok (.tuple #[_, .int .i64 (st : Int)]) w15 at hr15
            have hT15 := hT14
            clear hT14
            refine wpAnyH_ready (rs := [15]) (by kernel_rfl) (by simp) ?_
            refine AllReadyH.cons (o := { dst := some 65, op := Op.mapEntry 58 (Operand.tmp 53) (Operand.tmp 54), type := 0, pos := _, after := _, guard := none }) rfl (fun K hK => ?_) (AllReadyH.nil)
            go_simp
            have x0 := cell_grown hg15 (by simp; omega) x0
            have x1 := cell_grown hg15 (by simp; omega) x1
            have y0 := cell_grown hg15 (by simp; omega) y0
            have y1 := cell_grown hg15 (by simp; omega) y1
            have y2 := cell_grown hg15 (by simp; omega) y2
            have y3 := cell_grown hg15 (by simp; omega) y3
            have y4 := cell_grown hg15 (by simp; omega) y4
            refine hK.out _ _ ⟨⟨x0, x1⟩, y0, y1, y2, y3, y4⟩ (fun hHeld => ?_)
            clear hK K
            try simp only [Act.put, List.setIfInBounds_toArray, List.set_cons_zero, List.set_cons_succ]
            refine wpAnyH_take (i := 16) (oi := { dst := some 66, op := Op.extract (Operand.tmp 65) 1, type := 3, pos := _, after := _, guard := none }) (v := ?_) rfl (by kernel_rfl) (by kernel_rfl) (by kernel_rfl) (fun _ _ _ h => h) (Or.inl ⟨by rfl, ?_⟩) (by assumption) ?_
            rotate_left
            · intro wS hSw; (try dsimp only at hSw); go_simp; first | done | with_reducible rfl
            try simp only [Act.put, List.setIfInBounds_toArray, List.set_cons_zero, List.set_cons_succ]
            obtain ⟨d2, hd2⟩ := HD2.out
            obtain ⟨w17, hr17, hg17, hs17, ho17⟩ := hback w15 _ d2 rfl hd2
            change (Instr.entryStore 58 (.map (some w.heap.size)) (.int .i64 (st : Int)) (.slice (if capv = 1 then some ⟨bv, ov, none⟩ else some ⟨bv, ov + 5, none⟩) q (capv - 1))).run Try.prog w15 = .ok () w17 at hr17
            refine wpAnyH_ready (rs := [17]) (by kernel_rfl) (by simp) ?_
            refine AllReadyH.cons (o := { dst := none, op := Op.entryStore 58 (Operand.tmp 53) (Operand.tmp 66) (Operand.tmp 63), type := 0, pos := _, after := _, guard := none }) rfl (fun K hK => ?_) (AllReadyH.nil)
            go_simp
            have x0 := cell_grown hg17 (by simp; omega) x0
            have x1 := cell_grown hg17 (by simp; omega) x1
            have y0 := cell_grown hg17 (by simp; omega) y0
            have y1 := cell_grown hg17 (by simp; omega) y1
            have y2 := cell_grown hg17 (by simp; omega) y2
            have y3 := cell_grown hg17 (by simp; omega) y3
            have y4 := cell_grown hg17 (by simp; omega) y4
            refine hK.out _ _ ⟨⟨x0, x1⟩, y0, y1, y2, y3, y4⟩ (fun hHeld => ?_)
            clear hK K
            try simp only [Act.put, List.setIfInBounds_toArray, List.set_cons_zero, List.set_cons_succ]
            refine wpAnyH_done (by kernel_rfl) ?_ _
            have HN : Hid (Tak wq w17 w.heap.size wq.heap.size xs.length (m + 1) (.slice (some ⟨bu, ou, none⟩) xs.length capu) (ordA xs) (j + 1) (j + 1) (D.put (keyL (dd, ii)) d2) (putV V (dd, ii) (.slice (if capv = 1 then some ⟨bv, ov, none⟩ else some ⟨bv, ov + 5, none⟩) q (capv - 1)))) := hT15.entry (by omega) HK.out hg15 hg17 ho17 hd2 HTL.out HO.out
            have HZ : Hid (wq.heap.size + 1 ≤ w17.heap.size) := by show _ ≤ _; have := hg14.size; have := hg15.size; have := hg17.size; omega
            clear hT15 hr15 hr17 hback hg14 hg15 hg17 hs15 hs17 ho17 hd2 x0 x1 y0 y1 y2 y3 y4
            go_wp2_with fail
            go_roundw
            case rel => exact ⟨j + 1, m + 1, _, _, by omega, by omega, by go_num, HN.out, HZ.out⟩
            case measure => simp [intOf]; omega
          · go_simp
            refine hK.out _ _ hHeld (fun hHeld => ?_)
            clear hK K
            try simp only [Act.put, List.setIfInBounds_toArray, List.set_cons_zero, List.set_cons_succ]
            refine wpAnyH_take (i := 12) (oi := { dst := some 63, op := Op.slice 22 (Operand.tmp 62) (some (Operand.const (Value.int IntKind.i64 1))) none none, type := 22, pos := _, after := _, guard := none }) (v := ?_) rfl (by kernel_rfl) (by kernel_rfl) (by kernel_rfl) (fun _ _ _ h => h) (Or.inl ⟨by rfl, ?_⟩) (by assumption) ?_
            rotate_left
            · intro wS hSw; (try dsimp only at hSw); go_simp; first | done | with_reducible rfl
            try simp only [Act.put, List.setIfInBounds_toArray, List.set_cons_zero, List.set_cons_succ]
            refine wpAnyH_ready (rs := [6]) (by kernel_rfl) (by simp) ?_
            refine AllReadyH.cons (o := { dst := some 57, op := Op.lookup 58 (Operand.tmp 55) (Operand.tmp 56) false, type := 22, pos := _, after := _, guard := none }) rfl (fun K hK => ?_) (AllReadyH.nil)
            go_simp
            refine hK.out _ _ hHeld (fun hHeld => ?_)
            clear hK K
            try simp only [Act.put, List.setIfInBounds_toArray, List.set_cons_zero, List.set_cons_succ]
            refine wpAnyH_take (i := 7) (oi := { dst := some 58, op := Op.indexAddr 22 (Operand.tmp 57) (Operand.const (Value.int IntKind.i64 0)), type := 0, pos := _, after := _, guard := none }) (v := ?_) rfl (by kernel_rfl) (by kernel_rfl) (by kernel_rfl) (fun _ _ _ h => h) (Or.inl ⟨by rfl, ?_⟩) (by assumption) ?_
            rotate_left
            · intro wS hSw; (try dsimp only at hSw); go_simp; first | done | with_reducible rfl
            try simp only [Act.put, List.setIfInBounds_toArray, List.set_cons_zero, List.set_cons_succ]
            refine wpAnyH_take (i := 8) (oi := { dst := some 59, op := Op.load 30 (Operand.tmp 58), type := 30, pos := _, after := _, guard := none }) (v := ?_) rfl (by kernel_rfl) (by kernel_rfl) (by kernel_rfl) (fun _ _ _ h => h) (Or.inl ⟨by rfl, ?_⟩) (by assumption) ?_
            rotate_left
            · intro wS hSw; (try dsimp only at hSw); go_simp; first | done | with_reducible rfl
            try simp only [Act.put, List.setIfInBounds_toArray, List.set_cons_zero, List.set_cons_succ]
            refine wpAnyH_take (i := 13) (oi := { dst := some 64, op := Op.indexAddr 22 (Operand.tmp 51) (Operand.tmp 52), type := 0, pos := _, after := _, guard := none }) (v := ?_) rfl (by kernel_rfl) (by kernel_rfl) (by kernel_rfl) (fun _ _ _ h => h) (Or.inl ⟨by rfl, ?_⟩) (by assumption) ?_
            rotate_left
            · intro wS hSw; (try dsimp only at hSw); go_simp; first | done | with_reducible rfl
            try simp only [Act.put, List.setIfInBounds_toArray, List.set_cons_zero, List.set_cons_succ]
            refine wpAnyH_ready (rs := [14]) (by kernel_rfl) (by simp) ?_
            refine AllReadyH.cons (o := { dst := none, op := Op.store 30 (Operand.tmp 64) (Operand.tmp 59), type := 0, pos := _, after := _, guard := none }) rfl (fun K hK => ?_) (AllReadyH.nil)
            go_simp
            have hg14 : W0.grownBy (((((W0.setCell ⟨wq.heap.size, j * 5, none⟩ (.int .i64 ii)).setCell ⟨wq.heap.size, j * 5 + 1, none⟩ (.int .i64 dd)).setCell ⟨wq.heap.size, j * 5 + 2, none⟩ (.int .i64 cc)).setCell ⟨wq.heap.size, j * 5 + 3, none⟩ (.int .i64 vv)).setCell ⟨wq.heap.size, j * 5 + 4, none⟩ (.int .i64 rr)) (some wq.heap.size) := ((((setCell_grown W0 _ _ _).trans (setCell_grown _ _ _ _)).trans (setCell_grown _ _ _ _)).trans (setCell_grown _ _ _ _)).trans (setCell_grown _ _ _ _)
            have hT14 := HTW.out.store (by omega) HATJ.out (by omega) (Nat.le_refl _) hg14
            obtain ⟨W4, hW4⟩ : ∃ W4, (((((W0.setCell ⟨wq.heap.size, j * 5, none⟩ (.int .i64 ii)).setCell ⟨wq.heap.size, j * 5 + 1, none⟩ (.int .i64 dd)).setCell ⟨wq.heap.size, j * 5 + 2, none⟩ (.int .i64 cc)).setCell ⟨wq.heap.size, j * 5 + 3, none⟩ (.int .i64 vv)).setCell ⟨wq.heap.size, j * 5 + 4, none⟩ (.int .i64 rr)) = W4 := ⟨_, rfl⟩
            rw [hW4] at hg14 hT14 ⊢
            clear hW4
            have x0 := cell_grown hg14 (by simp; omega) x0
            have x1 := cell_grown hg14 (by simp; omega) x1
            have y0 := cell_grown hg14 (by simp; omega) y0
            have y1 := cell_grown hg14 (by simp; omega) y1
            have y2 := cell_grown hg14 (by simp; omega) y2
            have y3 := cell_grown hg14 (by simp; omega) y3
            have y4 := cell_grown hg14 (by simp; omega) y4
            refine hK.out _ _ ⟨⟨x0, x1⟩, y0, y1, y2, y3, y4⟩ (fun hHeld => ?_)
            clear hK K
            try simp only [Act.put, List.setIfInBounds_toArray, List.set_cons_zero, List.set_cons_succ]
            obtain ⟨st, w15, hr15, hg15, hs15, hback⟩ := entryS hT14.own hT14.hold HK.out (by unfold maxLen; omega)
            rw [ev] at hr15
            change (Instr.mapEntry 58 (.map (some w.heap.size)) (.agg #[.int .i64 dd, .int .i64 ii])).run Try.prog W4 = .ok (.tuple #[_, .int .i64 (st : Int)]) w15 at hr15
            have hT15 := hT14
            clear hT14
            refine wpAnyH_ready (rs := [15]) (by kernel_rfl) (by simp) ?_
            refine AllReadyH.cons (o := { dst := some 65, op := Op.mapEntry 58 (Operand.tmp 53) (Operand.tmp 54), type := 0, pos := _, after := _, guard := none }) rfl (fun K hK => ?_) (AllReadyH.nil)
            go_simp
            have x0 := cell_grown hg15 (by simp; omega) x0
            have x1 := cell_grown hg15 (by simp; omega) x1
            have y0 := cell_grown hg15 (by simp; omega) y0
            have y1 := cell_grown hg15 (by simp; omega) y1
            have y2 := cell_grown hg15 (by simp; omega) y2
            have y3 := cell_grown hg15 (by simp; omega) y3
            have y4 := cell_grown hg15 (by simp; omega) y4
            refine hK.out _ _ ⟨⟨x0, x1⟩, y0, y1, y2, y3, y4⟩ (fun hHeld => ?_)
            clear hK K
            try simp only [Act.put, List.setIfInBounds_toArray, List.set_cons_zero, List.set_cons_succ]
            refine wpAnyH_take (i := 16) (oi := { dst := some 66, op := Op.extract (Operand.tmp 65) 1, type := 3, pos := _, after := _, guard := none }) (v := ?_) rfl (by kernel_rfl) (by kernel_rfl) (by kernel_rfl) (fun _ _ _ h => h) (Or.inl ⟨by rfl, ?_⟩) (by assumption) ?_
            rotate_left
            · intro wS hSw; (try dsimp only at hSw); go_simp; first | done | with_reducible rfl
            try simp only [Act.put, List.setIfInBounds_toArray, List.set_cons_zero, List.set_cons_succ]
            obtain ⟨d2, hd2⟩ := HD2.out
            obtain ⟨w17, hr17, hg17, hs17, ho17⟩ := hback w15 _ d2 rfl hd2
            change (Instr.entryStore 58 (.map (some w.heap.size)) (.int .i64 (st : Int)) (.slice (if capv = 1 then some ⟨bv, ov, none⟩ else some ⟨bv, ov + 5, none⟩) q (capv - 1))).run Try.prog w15 = .ok () w17 at hr17
            refine wpAnyH_ready (rs := [17]) (by kernel_rfl) (by simp) ?_
            refine AllReadyH.cons (o := { dst := none, op := Op.entryStore 58 (Operand.tmp 53) (Operand.tmp 66) (Operand.tmp 63), type := 0, pos := _, after := _, guard := none }) rfl (fun K hK => ?_) (AllReadyH.nil)
            go_simp
            have x0 := cell_grown hg17 (by simp; omega) x0
            have x1 := cell_grown hg17 (by simp; omega) x1
            have y0 := cell_grown hg17 (by simp; omega) y0
            have y1 := cell_grown hg17 (by simp; omega) y1
            have y2 := cell_grown hg17 (by simp; omega) y2
            have y3 := cell_grown hg17 (by simp; omega) y3
            have y4 := cell_grown hg17 (by simp; omega) y4
            refine hK.out _ _ ⟨⟨x0, x1⟩, y0, y1, y2, y3, y4⟩ (fun hHeld => ?_)
            clear hK K
            try simp only [Act.put, List.setIfInBounds_toArray, List.set_cons_zero, List.set_cons_succ]
            refine wpAnyH_done (by kernel_rfl) ?_ _
            have HN : Hid (Tak wq w17 w.heap.size wq.heap.size xs.length (m + 1) (.slice (some ⟨bu, ou, none⟩) xs.length capu) (ordA xs) (j + 1) (j + 1) (D.put (keyL (dd, ii)) d2) (putV V (dd, ii) (.slice (if capv = 1 then some ⟨bv, ov, none⟩ else some ⟨bv, ov + 5, none⟩) q (capv - 1)))) := hT15.entry (by omega) HK.out hg15 hg17 ho17 hd2 HTL.out HO.out
            have HZ : Hid (wq.heap.size + 1 ≤ w17.heap.size) := by show _ ≤ _; have := hg14.size; have := hg15.size; have := hg17.size; omega
            clear hT15 hr15 hr17 hback hg14 hg15 hg17 hs15 hs17 ho17 hd2 x0 x1 y0 y1 y2 y3 y4
            go_wp2_with fail
            go_roundw
            case rel => exact ⟨j + 1, m + 1, _, _, by omega, by omega, by go_num, HN.out, HZ.out⟩
            case measure => simp [intOf]; omega
        · obtain rfl : j = xs.length := by omega
          have HE : Hid (OwnA wr w.heap.size (.slice (some ⟨wq.heap.size, 0, none⟩) xs.length xs.length) (ordA xs) ∧ Below w.heap.size w wr) := by
            refine ⟨?_, HBW.out.grown HT.out.grow sw (fun k hk => by cases hk; exact Nat.le_refl _)⟩
            have h0 := HT.out.sorted
            unfold OwnR at h0
            unfold OwnA
            rw [flatA_R, ordA_len]
            rw [flatR_congr (R := recA) (f := toR apZ xs.length (atA (ordA xs))) (g := atA (ordA xs)) (fun i hi => if_pos hi)] at h0
            exact own_low h0 sw
          clear HT
          go_wp2_with fail
          go_ret
          exact ⟨_, rfl, HE.out.1, HE.out.2⟩
end Go.Proofs.Ytjaaabliefcgaaa
