/- Walks of the document's own: put, Sort. -/
import Derived.Test.YtjaaabliefcgaaaG1
namespace Go.Proofs.Ytjaaabliefcgaaa
open Go.RowKit
set_option linter.unusedVariables false

theorem Its.tail {w : World} {b o n cap t : Nat} {xs : List (Int × Int)} (h : Its w (.slice (some ⟨b, o, none⟩) n cap) xs) (ht : t ≤ xs.length) :
    Its w (.slice (some ⟨b, o + t * 2, none⟩) (xs.length - t) (cap - t)) (xs.drop t) := by
  obtain ⟨a, cap', e, h1, h2, h0, h3⟩ := h
  simp only [Value.slice.injEq] at e
  obtain ⟨rfl, rfl, rfl⟩ := e
  have hl : (xs.drop t).length = xs.length - t := by simp
  refine ⟨_, _, by rw [hl], by rw [hl]; omega, by omega, fun h => by simp at h, fun hx => ?_⟩
  obtain ⟨b', o', e', h4⟩ := h3 (by intro e; subst e; simp at hx)
  simp only [Option.some.injEq, Addr.mk.injEq, and_true] at e'
  obtain ⟨rfl, rfl⟩ := e'
  refine ⟨b, o + t * 2, rfl, fun i hi => ?_⟩
  rw [hl] at hi
  have e : atI (xs.drop t) i = atI xs (t + i) := by simp [atI, List.getD]
  rw [e, show o + t * 2 + i * 2 = o + (t + i) * 2 by omega]
  exact h4 (t + i) (by omega)
theorem Its.nilv {w : World} {a : Option Addr} {cap : Nat} (hc : cap ≤ maxLen) (h : a = none → cap = 0) : Its w (.slice a 0 cap) [] := ⟨a, cap, rfl, Nat.zero_le _, hc, h, fun h => absurd rfl h⟩

theorem Its.zero {w : World} {ad : Addr} {m cap : Nat} (hm : m = 0) (hc : cap ≤ maxLen) : Its w (.slice (some ad) m cap) [] := by subst hm; exact Its.nilv hc (fun h => by simp at h)

theorem put_eq {xs : List (Int × Int)} {x : Int × Int} {t : Nat} (hs : srtd xs) (ht : t ≤ xs.length) (h1 : ∀ k, t ≤ k → k < xs.length → ahd x (atI xs k) = true) (h2 : t = 0 ∨ ahd x (atI xs (t - 1)) = false) :
    (xs.take t ++ [x]) ++ xs.drop t = srt (xs ++ [x]) := by
  refine srt_of ?_ ?_
  · have e : ∀ k (hk : k < xs.length), xs[k] = atI xs k := fun k hk => by simp [atI, List.getD, hk]
    have hdr : ∀ y ∈ xs.drop t, ile x y := fun y hy => by
      obtain ⟨k, hk⟩ := List.getElem?_of_mem hy
      rw [List.getElem?_drop] at hk
      have := h1 (t + k) (by omega) (List.getElem?_eq_some_iff.1 hk).1
      rw [atI_of hk] at this; exact ile_of this
    have htk : ∀ y ∈ xs.take t, ile y x := fun y hy => by
      rcases h2 with rfl | h2
      · simp at hy
      · obtain ⟨k, hk⟩ := List.getElem?_of_mem hy
        have hkl := (List.getElem?_eq_some_iff.1 hk).1
        simp at hkl
        rw [List.getElem?_take, if_pos (by omega)] at hk
        have hle : ile (atI xs k) (atI xs (t - 1)) := by
          rcases (show k < t - 1 ∨ k = t - 1 by omega) with h | h
          · have := (List.pairwise_iff_getElem.1 hs) k (t - 1) (by omega) (by omega) h
            rwa [e _ (by omega), e _ (by omega)] at this
          · rw [h]; exact ile_refl _
        rw [atI_of hk] at hle
        exact ile_trans hle h2
    have hs' : srtd (xs.take t ++ xs.drop t) := by rw [List.take_append_drop]; exact hs
    unfold srtd at *
    rw [List.pairwise_append] at hs'
    rw [List.append_assoc, List.pairwise_append]
    refine ⟨hs'.1, List.pairwise_cons.2 ⟨hdr, hs'.2.1⟩, fun y hy z hz => ?_⟩
    rcases List.mem_cons.1 hz with rfl | hz
    · exact htk y hy
    · exact hs'.2.2 y hy z hz
  · have : (xs.take t ++ [x] ++ xs.drop t).Perm (x :: (xs.take t ++ xs.drop t)) := by rw [List.append_assoc]; exact List.perm_middle
    rw [List.take_append_drop] at this
    exact this.trans (List.perm_append_comm (l₁ := [x]) (l₂ := xs))

theorem bel3 {B : Nat} {w wr w1 w2 w3 : World} {o : Obj} (h : Below B w wr) (hs : B ≤ wr.heap.size) (h1 : Below wr.heap.size wr w1) (h2 : Below wr.heap.size w1 w2) (h3 : Below wr.heap.size (w2.alloc o) w3) : Below B w w3 :=
  h.trans ((((h1.trans h2).alloc (h1.trans h2).size o).trans h3).mono hs)
theorem cell_below {B : Nat} {w w' : World} {p : Addr} {v : Value} (hb : Below B w w') (hl : p.block < B) (hc : w.cell? p = some v) : w'.cell? p = some v := (hb.cell hl).trans hc
theorem Its.one (w : World) (kx ix : Int) : Its (w.alloc (.cells #[.int .i64 kx, .int .i64 ix] 50)) (.slice (some ⟨w.heap.size, 0, none⟩) 1 1) [(kx, ix)] :=
  (Its.own (World.ownsRow_lit (base := 0) (e := 50) (size := 2) w #[.int .i64 kx, .int .i64 ix] 1 (Nat.zero_le _) (by decide) rfl)).1

set_option maxHeartbeats 1000000 in
set_option maxRecDepth 100000 in
theorem rput4_any (xs : List (Int × Int)) (v : Value) (kx ix : Int) (w : World) (h : Its w v xs) (hx : xs.length ≤ 1000) (hs : srtd xs) :
    Calls Try.prog 43 #[v, .agg #[.int .i64 kx, .int .i64 ix]] w (OwnE w.heap.size (srt (xs ++ [(kx, ix)])) w) := by
  have HI : Hid (Its w v xs ∧ srtd xs) := ⟨h, hs⟩
  obtain ⟨a, cap, rfl, h1, h2, h0, h3⟩ := h
  have b0 : Below w.heap.size w (w.alloc (.cells #[.int .i64 kx, .int .i64 ix] 50)) := (Below.refl _ _).alloc (Nat.le_refl _) _
  have x0 : (w.alloc (.cells #[.int .i64 kx, .int .i64 ix] 50)).cell? ⟨w.heap.size, 0, none⟩ = some (.int .i64 kx) := by simp
  have x1 : (w.alloc (.cells #[.int .i64 kx, .int .i64 ix] 50)).cell? ⟨w.heap.size, 1, none⟩ = some (.int .i64 ix) := by simp
  obtain ⟨w1, hw1⟩ : ∃ w1, w.alloc (.cells #[.int .i64 kx, .int .i64 ix] 50) = w1 := ⟨_, rfl⟩
  rw [hw1] at b0 x0 x1
  have HW : Hid (w.alloc (.cells #[.int .i64 kx, .int .i64 ix] 50) = w1) := hw1
  clear hw1 hs
  go_enter Try.func43, Try.ntmps43
  go_wp2_with fail
  rw [HW.out]
  go_loopw [5] (fun i wr => ∃ (t : Nat), t ≤ xs.length ∧ i = .int .i64 t ∧ Below w1.heap.size w1 wr ∧ Hid (∀ k, t ≤ k → k < xs.length → ahd (kx, ix) (atI xs k) = true)) (fun i _ => (intOf i).toNat)
  case atStart => exact ⟨xs.length, Nat.le_refl _, rfl, Below.refl _ _, fun k h1 h2 => by omega⟩
  case round =>
    obtain ⟨t, ht, rfl, hbw, HK⟩ := hrel
    have x0 := cell_later hbw x0
    have x1 := cell_later hbw x1
    have HB : Hid (Below w.heap.size w wr) := below_next b0 hbw b0.size
    rcases Nat.eq_zero_or_pos t with ht0 | ht0
    · have HP : Hid ((xs.take t ++ [(kx, ix)]) ++ xs.drop t = srt (xs ++ [(kx, ix)])) := put_eq HI.out.2 ht HK.out (Or.inl ht0)
      have g3 : decide ((t : Int) > 0) = false := decide_eq_false (by omega)
      have g3' : decide (0 < t) = false := decide_eq_false (by omega)
      have s1 := HB.out.size
      have q1 : (0 : Int) ≤ (t : Int) := by omega
      have q2 : (t : Int) ≤ xs.length := by omega
      clear ht0 HK
      go_wp2_with fail
      go_quiet (fail)
      have lw : w.heap.size < wr.heap.size := World.block_lt_of_cell? _ _ x0
      by_cases hne : xs = []
      · subst hne
        obtain rfl : t = 0 := by simpa using ht
        simp only [List.length_nil] at *
        cases a with
        | none =>
          obtain rfl := h0 rfl
          go_wp2_with (first
            | (at_builtin; refine append_its rfl _ _ 48 Try.underlying48 rfl wr.heap.size (.slice none 0 0) _ 0 [] [] (by rfl) (World.ownsRow_nil _ _ _ _) (by rfl) (Its.nilv (by first | assumption | omega) (by simp)) (by simp) (Nat.le_refl _) ?_; intro v2 w2 hown2 hb2; have y0 := cell_below (p := ⟨w.heap.size, 0, none⟩) hb2 lw x0; have y1 := cell_below (p := ⟨w.heap.size, 1, none⟩) hb2 lw x1)
            | (at_builtin; refine append_its rfl _ _ 48 Try.underlying48 rfl wr.heap.size v2 _ (0 + ([] : List (Int × Int)).length) ([] ++ []) [(kx, ix)] (by rfl) (hown2.alloc _) (by rfl) (Its.one w2 kx ix) (by simp) (Nat.le_trans hb2.size (by simp)) ?_; intro v3 w3 hown3 hb3)
            | (at_builtin; refine append_its rfl _ _ 48 Try.underlying48 rfl wr.heap.size v3 _ (0 + ([] : List (Int × Int)).length + [(kx, ix)].length) ([] ++ [] ++ [(kx, ix)]) [] (by rfl) hown3 (by rfl) (Its.nilv (by first | assumption | omega) (by simp)) (by simp) (Nat.le_trans hb2.size (Nat.le_trans (by simp) hb3.size)) ?_; intro v4 w4 hown4 hb4))
          all_goals
            go_ret
            exact ⟨_, rfl, World.ownsRow.lower hown4 s1, (bel3 HB.out s1 (drawn (Below.refl _ _) nq) hb2 hb3).trans (hb4.mono s1)⟩
        | some ad =>
          rcases Nat.eq_zero_or_pos cap with rfl | hcp
          · skip
            go_wp2_with (first
              | (at_builtin; refine append_its rfl _ _ 48 Try.underlying48 rfl wr.heap.size (.slice none 0 0) _ 0 [] [] (by rfl) (World.ownsRow_nil _ _ _ _) (by rfl) (Its.nilv (by first | assumption | omega) (by simp)) (by simp) (Nat.le_refl _) ?_; intro v2 w2 hown2 hb2; have y0 := cell_below (p := ⟨w.heap.size, 0, none⟩) hb2 lw x0; have y1 := cell_below (p := ⟨w.heap.size, 1, none⟩) hb2 lw x1)
              | (at_builtin; refine append_its rfl _ _ 48 Try.underlying48 rfl wr.heap.size v2 _ (0 + ([] : List (Int × Int)).length) ([] ++ []) [(kx, ix)] (by rfl) (hown2.alloc _) (by rfl) (Its.one w2 kx ix) (by simp) (Nat.le_trans hb2.size (by simp)) ?_; intro v3 w3 hown3 hb3)
              | (at_builtin; refine append_its rfl _ _ 48 Try.underlying48 rfl wr.heap.size v3 _ (0 + ([] : List (Int × Int)).length + [(kx, ix)].length) ([] ++ [] ++ [(kx, ix)]) [] (by rfl) hown3 (by rfl) (Its.nilv (by first | assumption | omega) (by simp)) (by simp) (Nat.le_trans hb2.size (Nat.le_trans (by simp) hb3.size)) ?_; intro v4 w4 hown4 hb4))
            all_goals
              go_ret
              exact ⟨_, rfl, World.ownsRow.lower hown4 s1, (bel3 HB.out s1 (drawn (Below.refl _ _) nq) hb2 hb3).trans (hb4.mono s1)⟩
          · have hcp' : (0 : Int) < cap := by omega
            go_wp2_with (first
              | (at_builtin; refine append_its rfl _ _ 48 Try.underlying48 rfl wr.heap.size (.slice none 0 0) _ 0 [] [] (by rfl) (World.ownsRow_nil _ _ _ _) (by rfl) (Its.nilv (by first | assumption | omega) (by simp)) (by simp) (Nat.le_refl _) ?_; intro v2 w2 hown2 hb2; have y0 := cell_below (p := ⟨w.heap.size, 0, none⟩) hb2 lw x0; have y1 := cell_below (p := ⟨w.heap.size, 1, none⟩) hb2 lw x1)
              | (at_builtin; refine append_its rfl _ _ 48 Try.underlying48 rfl wr.heap.size v2 _ (0 + ([] : List (Int × Int)).length) ([] ++ []) [(kx, ix)] (by rfl) (hown2.alloc _) (by rfl) (Its.one w2 kx ix) (by simp) (Nat.le_trans hb2.size (by simp)) ?_; intro v3 w3 hown3 hb3)
              | (at_builtin; refine append_its rfl _ _ 48 Try.underlying48 rfl wr.heap.size v3 _ (0 + ([] : List (Int × Int)).length + [(kx, ix)].length) ([] ++ [] ++ [(kx, ix)]) [] (by rfl) hown3 (by rfl) (Its.nilv (by first | assumption | omega) (by simp)) (by simp) (Nat.le_trans hb2.size (Nat.le_trans (by simp) hb3.size)) ?_; intro v4 w4 hown4 hb4))
            all_goals
              go_ret
              exact ⟨_, rfl, World.ownsRow.lower hown4 s1, (bel3 HB.out s1 (drawn (Below.refl _ _) nq) hb2 hb3).trans (hb4.mono s1)⟩
      · obtain ⟨b, o, rfl, _⟩ := h3 hne
        rcases (show t < cap ∨ t = cap by omega) with hct | hct
        · have hct' : ((t : Nat) : Int) < cap := by omega
          go_wp2_with (first
            | (at_builtin; refine append_its rfl _ _ 48 Try.underlying48 rfl wr.heap.size (.slice none 0 0) _ 0 [] (xs.take t) (by rfl) (World.ownsRow_nil _ _ _ _) (by rfl) ((HI.out.1.later (drawn HB.out nq)).front ht) (by simp; omega) (Nat.le_refl _) ?_; intro v2 w2 hown2 hb2; have y0 := cell_below (p := ⟨w.heap.size, 0, none⟩) hb2 lw x0; have y1 := cell_below (p := ⟨w.heap.size, 1, none⟩) hb2 lw x1)
            | (at_builtin; refine append_its rfl _ _ 48 Try.underlying48 rfl wr.heap.size v2 _ (0 + (xs.take t).length) ([] ++ xs.take t) [(kx, ix)] (by rfl) (hown2.alloc _) (by rfl) (Its.one w2 kx ix) (by simp; omega) (Nat.le_trans hb2.size (by simp)) ?_; intro v3 w3 hown3 hb3)
            | (at_builtin; refine append_its rfl _ _ 48 Try.underlying48 rfl wr.heap.size v3 _ (0 + (xs.take t).length + [(kx, ix)].length) ([] ++ xs.take t ++ [(kx, ix)]) (xs.drop t) (by rfl) hown3 (by rfl) ((HI.out.1.later (bel3 HB.out s1 (drawn (Below.refl _ _) nq) hb2 hb3)).tail ht) (by simp; omega) (Nat.le_trans hb2.size (Nat.le_trans (by simp) hb3.size)) ?_; intro v4 w4 hown4 hb4))
          go_ret
          have hlen : 0 + (xs.take t).length + [(kx, ix)].length + (xs.drop t).length = (srt (xs ++ [(kx, ix)])).length := by rw [srt_len]; simp; omega
          rw [List.nil_append, HP.out, hlen] at hown4
          exact ⟨_, rfl, World.ownsRow.lower hown4 s1, (bel3 HB.out s1 (drawn (Below.refl _ _) nq) hb2 hb3).trans (hb4.mono s1)⟩
        · have htl : xs.length - t = 0 := by omega
          have HDN : Hid (xs.drop t = []) := List.drop_eq_nil_of_le (by omega)
          subst hct
          go_wp2_with (first
            | (at_builtin; refine append_its rfl _ _ 48 Try.underlying48 rfl wr.heap.size (.slice none 0 0) _ 0 [] (xs.take t) (by rfl) (World.ownsRow_nil _ _ _ _) (by rfl) ((HI.out.1.later (drawn HB.out nq)).front ht) (by simp; omega) (Nat.le_refl _) ?_; intro v2 w2 hown2 hb2; have y0 := cell_below (p := ⟨w.heap.size, 0, none⟩) hb2 lw x0; have y1 := cell_below (p := ⟨w.heap.size, 1, none⟩) hb2 lw x1)
            | (at_builtin; refine append_its rfl _ _ 48 Try.underlying48 rfl wr.heap.size v2 _ (0 + (xs.take t).length) ([] ++ xs.take t) [(kx, ix)] (by rfl) (hown2.alloc _) (by rfl) (Its.one w2 kx ix) (by simp; omega) (Nat.le_trans hb2.size (by simp)) ?_; intro v3 w3 hown3 hb3)
            | (at_builtin; refine append_its rfl _ _ 48 Try.underlying48 rfl wr.heap.size v3 _ (0 + (xs.take t).length + [(kx, ix)].length) ([] ++ xs.take t ++ [(kx, ix)]) (xs.drop t) (by rfl) hown3 (by rfl) (HDN.out.symm ▸ Its.zero (by first | rfl | assumption | omega) (Nat.zero_le _)) (by simp; omega) (Nat.le_trans hb2.size (Nat.le_trans (by simp) hb3.size)) ?_; intro v4 w4 hown4 hb4))
          go_ret
          have hlen : 0 + (xs.take t).length + [(kx, ix)].length + (xs.drop t).length = (srt (xs ++ [(kx, ix)])).length := by rw [srt_len]; simp; omega
          rw [List.nil_append, HP.out, hlen] at hown4
          exact ⟨_, rfl, World.ownsRow.lower hown4 s1, (bel3 HB.out s1 (drawn (Below.refl _ _) nq) hb2 hb3).trans (hb4.mono s1)⟩
    · obtain ⟨s, rfl⟩ : ∃ s, t = s + 1 := ⟨t - 1, by omega⟩
      have hne : xs ≠ [] := by intro e; subst e; simp at ht
      obtain ⟨b, o, rfl, h4⟩ := h3 hne
      have HB0 := HB.out
      have d0 := cell_later HB0 (h4 s (by omega)).1
      have d1 := cell_later HB0 (h4 s (by omega)).2
      have g3 : decide (((s + 1 : Nat) : Int) > 0) = true := decide_eq_true (by omega)
      obtain ⟨f, hf⟩ : ∃ f, ahd (kx, ix) (atI xs s) = f := ⟨_, rfl⟩
      have HF : Hid (ahd (kx, ix) (atI xs s) = f) := hf
      have hcall : ∀ W : World, Calls Try.prog 49 #[.agg #[.int .i64 kx, .int .i64 ix], .agg #[.int .i64 (atI xs s).1, .int .i64 (atI xs s).2]] W fun e w' => e = .returned (.bool f) ∧ Below W.heap.size W w' := fun W => by
        have := ahead_any kx ix (atI xs s).1 (atI xs s).2 W
        rwa [show ahd (kx, ix) ((atI xs s).1, (atI xs s).2) = f from hf] at this
      clear hf ht0 h4
      have s1 := HB.out.size
      have lw : w.heap.size < wr.heap.size := World.block_lt_of_cell? _ _ x0
      have q1 : (0 : Int) ≤ (s : Int) + 1 := by omega
      have q2 : (s : Int) + 1 ≤ xs.length := by omega
      have q3 : (0 : Int) ≤ (s : Int) := by omega
      have q4 : (s : Int) < xs.length := by omega
      have q7 : IntKind.i64.wrap (s : Int) = (s : Int) := by rw [IntKind.wrap_i64]; omega
      cases f
      · have HP : Hid ((xs.take (s + 1) ++ [(kx, ix)]) ++ xs.drop (s + 1) = srt (xs ++ [(kx, ix)])) := put_eq HI.out.2 ht HK.out (Or.inr HF.out)
        clear HK HF
        generalize atI xs s = z at *
        go_wp2_with fail
        go_region_held3 (fun w' => w'.cell? ⟨w.heap.size, 0, none⟩ = some (.int .i64 kx) ∧ w'.cell? ⟨w.heap.size, 1, none⟩ = some (.int .i64 ix) ∧ w'.cell? ⟨b, o + s * 2, none⟩ = some (.int .i64 z.1) ∧ w'.cell? ⟨b, o + s * 2 + 1, none⟩ = some (.int .i64 z.2)) (first | exact ⟨x0, x1, d0, d1⟩ | exact ⟨cell_later hb5 x0, cell_later hb5 x1, cell_later hb5 d0, cell_later hb5 d1⟩) (first | (go_at_call 49; refine (hcall _).mono ?_; rintro e w5 ⟨rfl, hb5⟩))
        have HB5 : Hid (Below w.heap.size w w5) := below_next HB.out.drew hb5 (by exact s1)
        have s5 := HB5.out.size
        have lw5 : w.heap.size < w5.heap.size := Nat.lt_of_lt_of_le lw hb5.size
        have x0 := cell_later hb5 (show wr.drew.cell? ⟨w.heap.size, 0, none⟩ = some (.int .i64 kx) from x0)
        have x1 := cell_later hb5 (show wr.drew.cell? ⟨w.heap.size, 1, none⟩ = some (.int .i64 ix) from x1)
        clear hb5 HB s1 lw hbw
        have HB := HB5
        have s1 := s5
        have lw := lw5
        clear HB0 d0 d1
        rcases (show s + 1 < cap ∨ s + 1 = cap by omega) with hct | hct
        · have hct' : (s : Int) + 1 < cap := by omega
          go_wp2_with (first
            | (at_builtin; refine append_its rfl _ _ 48 Try.underlying48 rfl w5.heap.size (.slice none 0 0) _ 0 [] (xs.take (s + 1)) (by rfl) (World.ownsRow_nil _ _ _ _) (by rfl) ((HI.out.1.later HB.out).front ht) (by simp; omega) (Nat.le_refl _) ?_; intro v2 w2 hown2 hb2; have y0 := cell_below (p := ⟨w.heap.size, 0, none⟩) hb2 lw x0; have y1 := cell_below (p := ⟨w.heap.size, 1, none⟩) hb2 lw x1)
            | (at_builtin; refine append_its rfl _ _ 48 Try.underlying48 rfl w5.heap.size v2 _ (0 + (xs.take (s + 1)).length) ([] ++ xs.take (s + 1)) [(kx, ix)] (by rfl) (hown2.alloc _) (by rfl) (Its.one w2 kx ix) (by simp; omega) (Nat.le_trans hb2.size (by simp)) ?_; intro v3 w3 hown3 hb3)
            | (at_builtin; refine append_its rfl _ _ 48 Try.underlying48 rfl w5.heap.size v3 _ (0 + (xs.take (s + 1)).length + [(kx, ix)].length) ([] ++ xs.take (s + 1) ++ [(kx, ix)]) (xs.drop (s + 1)) (by rfl) hown3 (by rfl) ((HI.out.1.later (bel3 HB.out s1 (Below.refl _ _) hb2 hb3)).tail ht) (by simp; omega) (Nat.le_trans hb2.size (Nat.le_trans (by simp) hb3.size)) ?_; intro v4 w4 hown4 hb4))
          go_ret
          have hlen : 0 + (xs.take (s + 1)).length + [(kx, ix)].length + (xs.drop (s + 1)).length = (srt (xs ++ [(kx, ix)])).length := by rw [srt_len]; simp; omega
          rw [List.nil_append, HP.out, hlen] at hown4
          exact ⟨_, rfl, World.ownsRow.lower hown4 s1, (bel3 HB.out s1 (Below.refl _ _) hb2 hb3).trans (hb4.mono s1)⟩
        · have htl : xs.length - (s + 1) = 0 := by omega
          have HDN : Hid (xs.drop (s + 1) = []) := List.drop_eq_nil_of_le (by omega)
          subst hct
          go_wp2_with (first
            | (at_builtin; refine append_its rfl _ _ 48 Try.underlying48 rfl w5.heap.size (.slice none 0 0) _ 0 [] (xs.take (s + 1)) (by rfl) (World.ownsRow_nil _ _ _ _) (by rfl) ((HI.out.1.later HB.out).front ht) (by simp; omega) (Nat.le_refl _) ?_; intro v2 w2 hown2 hb2; have y0 := cell_below (p := ⟨w.heap.size, 0, none⟩) hb2 lw x0; have y1 := cell_below (p := ⟨w.heap.size, 1, none⟩) hb2 lw x1)
            | (at_builtin; refine append_its rfl _ _ 48 Try.underlying48 rfl w5.heap.size v2 _ (0 + (xs.take (s + 1)).length) ([] ++ xs.take (s + 1)) [(kx, ix)] (by rfl) (hown2.alloc _) (by rfl) (Its.one w2 kx ix) (by simp; omega) (Nat.le_trans hb2.size (by simp)) ?_; intro v3 w3 hown3 hb3)
            | (at_builtin; refine append_its rfl _ _ 48 Try.underlying48 rfl w5.heap.size v3 _ (0 + (xs.take (s + 1)).length + [(kx, ix)].length) ([] ++ xs.take (s + 1) ++ [(kx, ix)]) (xs.drop (s + 1)) (by rfl) hown3 (by rfl) (HDN.out.symm ▸ Its.zero (by first | rfl | assumption | omega) (Nat.zero_le _)) (by simp; omega) (Nat.le_trans hb2.size (Nat.le_trans (by simp) hb3.size)) ?_; intro v4 w4 hown4 hb4))
          go_ret
          have hlen : 0 + (xs.take (s + 1)).length + [(kx, ix)].length + (xs.drop (s + 1)).length = (srt (xs ++ [(kx, ix)])).length := by rw [srt_len]; simp; omega
          rw [List.nil_append, HP.out, hlen] at hown4
          exact ⟨_, rfl, World.ownsRow.lower hown4 s1, (bel3 HB.out s1 (Below.refl _ _) hb2 hb3).trans (hb4.mono s1)⟩
      · have HS : Hid (∀ k, s ≤ k → k < xs.length → ahd (kx, ix) (atI xs k) = true) := fun k hk hk2 => by
          rcases (show k = s ∨ s + 1 ≤ k by omega) with rfl | h
          · exact HF.out
          · exact HK.out k h hk2
        clear HK HF
        generalize hz : atI xs s = z at *
        go_wp2_with fail
        go_region_held3 (fun w' => w'.cell? ⟨w.heap.size, 0, none⟩ = some (.int .i64 kx) ∧ w'.cell? ⟨w.heap.size, 1, none⟩ = some (.int .i64 ix) ∧ w'.cell? ⟨b, o + s * 2, none⟩ = some (.int .i64 z.1) ∧ w'.cell? ⟨b, o + s * 2 + 1, none⟩ = some (.int .i64 z.2)) (first | exact ⟨x0, x1, d0, d1⟩ | exact ⟨cell_later hb5 x0, cell_later hb5 x1, cell_later hb5 d0, cell_later hb5 d1⟩) (first | (go_at_call 49; refine (hcall _).mono ?_; rintro e w5 ⟨rfl, hb5⟩))
        all_goals
          go_wp2_with fail
          go_roundw
          case rel => exact ⟨s, by omega, by go_num, below_next hbw.drew hb5 hbw.size, HS.out⟩
          case measure => simp [intOf]

theorem take_nextI {xs : List (Int × Int)} {j : Nat} (h : j < xs.length) : xs.take (j + 1) = xs.take j ++ [atI xs j] := by
  rw [List.take_add_one, atI_get h]; rfl
theorem srt_next {xs : List (Int × Int)} {j : Nat} (h : j < xs.length) : srt (srt (xs.take j) ++ [atI xs j]) = srt (xs.take (j + 1)) := by
  rw [take_nextI h]; exact srt_congr ((srt_perm _).append_right _)

set_option maxHeartbeats 1000000 in
set_option maxRecDepth 100000 in
theorem rsort_any (xs : List (Int × Int)) (v : Value) (w : World) (h : Its w v xs) (hx : xs.length ≤ 900) :
    Calls Try.prog 35 #[v] w fun e w' => ∃ u, e = .returned u ∧ Its w' u (srt xs) ∧ Below w.heap.size w w' := by
  obtain ⟨a, cap, rfl, h1, h2, h0, h3⟩ := h
  go_enter Try.func35, Try.ntmps35
  go_wp2_with fail
  go_loopw [3, 4] (fun l i wr => ∃ (j : Nat), j ≤ xs.length ∧ i = .int .i64 j ∧ Hid (Its wr l (srt (xs.take j))) ∧ Below w.heap.size w wr) (fun _ i _ => ((xs.length : Int) - intOf i).toNat)
  case atStart => exact ⟨0, by omega, rfl, Its.nilv (by decide) (fun _ => rfl), Below.refl _ _⟩
  case round =>
    obtain ⟨j, hj, rfl, HI, hbw⟩ := hrel
    have s1 := hbw.size
    by_cases hlt : (j : Int) < xs.length
    · obtain ⟨b, o, rfl, h4⟩ := h3 (by intro e; rw [e, List.length_nil] at hlt; omega)
      have c0 := cell_later hbw (h4 j (by omega)).1
      have c1 := cell_later hbw (h4 j (by omega)).2
      have HN : Hid (srt (srt (xs.take j) ++ [atI xs j]) = srt (xs.take (j + 1))) := srt_next (by omega)
      have hl : (srt (xs.take j)).length ≤ 1000 := by rw [srt_len]; simp; omega
      clear h4 h3
      generalize atI xs j = x at *
      go_wp2_with fail
      refine (rput4_any (srt (xs.take j)) _ x.1 x.2 _ HI.out hl (srt_srtd _)).mono ?_
      rintro e w2 ⟨v2, rfl, hown2, hb2⟩
      rw [HN.out] at hown2
      have H2 : Hid (Its w2 v2 (srt (xs.take (j + 1))) ∧ Below w.heap.size w w2) := ⟨(Its.own hown2).1, below_next hbw hb2 s1⟩
      clear hown2 hb2 hbw HI
      go_wp2_with fail
      go_roundw
      case rel => exact ⟨j + 1, by omega, by go_num, H2.out.1, H2.out.2⟩
      case measure => simp [intOf]; omega
    · obtain rfl : j = xs.length := by omega
      rw [List.take_length] at HI
      go_wp2_with fail
      go_ret
      exact ⟨_, rfl, HI.out, hbw⟩
end Go.Proofs.Ytjaaabliefcgaaa
