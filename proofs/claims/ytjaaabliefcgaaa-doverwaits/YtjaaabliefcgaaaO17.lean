/- Who is gone, in numbers; walk of find; what the statement DoverCan comes to. -/
import Derived.Test.YtjaaabliefcgaaaO16
namespace Go.Proofs.Ytjaaabliefcgaaa
open Go.RowKit Go.Maps Go.Shelf

/-- The first one of that ID. -/
def fdA (xs : List Ap) (id : Int) : Option Ap := xs.find? fun a => decide (a.id = id)
theorem fd_at {xs : List Ap} {j : Nat} {id : Int} (hj : j < xs.length) (h : (atA xs j).id = id) (hb : ∀ t, t < j → (atA xs t).id ≠ id) : fdA xs id = some (atA xs j) := by
  unfold fdA
  have e : xs = xs.take j ++ atA xs j :: xs.drop (j + 1) := by rw [← dropA_next hj, List.take_append_drop]
  rw [e, List.find?_append]
  have h1 : (xs.take j).find? (fun a => decide (a.id = id)) = none := by
    rw [List.find?_eq_none]
    intro a ha
    obtain ⟨t, ht, et⟩ := List.getElem_of_mem ha
    rw [List.length_take] at ht
    have := hb t (by omega)
    rw [List.getElem_take] at et
    rw [atA_of (List.getElem?_eq_getElem (show t < xs.length by omega)), et] at this
    simpa using this
  rw [h1]
  have e2 : atA (xs.take j ++ atA xs j :: xs.drop (j + 1)) j = atA xs j := by rw [← e]
  rw [e2]
  simp [h]
theorem fd_none {xs : List Ap} {id : Int} (hb : ∀ t, t < xs.length → (atA xs t).id ≠ id) : fdA xs id = none := by
  unfold fdA
  rw [List.find?_eq_none]
  intro a ha
  obtain ⟨t, ht, et⟩ := List.getElem_of_mem ha
  have := hb t ht
  rw [atA_of (List.getElem?_eq_getElem ht), et] at this
  simpa using this
theorem fd_mem {xs : List Ap} (hd : (idsA xs).Nodup) {a : Ap} (ha : a ∈ xs) : fdA xs a.id = some a := by
  obtain ⟨i, hi, e⟩ := List.getElem_of_mem ha
  have e1 : atA xs i = a := by rw [atA_of (List.getElem?_eq_getElem hi), e]
  have := fd_at (xs := xs) (id := a.id) hi (by rw [e1]) (fun t ht e2 => by
    have := key_same hd (atA_mem (show t < xs.length by omega)) ha e2
    have h1 : (idsA xs)[t]? = some a.id := by unfold idsA; rw [List.getElem?_map, atA_get (by omega), this]; rfl
    have h2 : (idsA xs)[i]? = some a.id := by unfold idsA; rw [List.getElem?_map, atA_get hi, e1]; rfl
    have := (List.getElem?_inj (i := t) (by rw [idsA_len]; omega) hd).1 (h1.trans h2.symm)
    omega)
  rw [this, e1]
theorem fd_not {xs : List Ap} {id : Int} (h : id ∉ idsA xs) : fdA xs id = none := by
  unfold fdA
  rw [List.find?_eq_none]
  intro a ha e
  exact h (by rw [← of_decide_eq_true e]; exact List.mem_map_of_mem ha)
def put5 (w : World) (b : Nat) (a : Ap) : World := set5 w b a.id a.due a.c a.v a.r
set_option maxHeartbeats 1000000 in
set_option maxRecDepth 100000 in
theorem find13_any (xs : List Ap) (v : Value) (id : Int) (w : World) (h : Aps w v xs) :
    Calls Try.prog 23 #[v, .int .i64 id] w fun e w' => e = .returned (.tuple #[apV ((fdA xs id).getD apZ), .bool (fdA xs id).isSome]) ∧ Below w.heap.size w w' := by
  obtain ⟨ad, cap, rfl, h1, h2, h0, h3⟩ := h.open
  have HZ : Hid (Bx5 (w.alloc (.cells #[.int .i64 0, .int .i64 0, .int .i64 0, .int .i64 0, .int .i64 0] 30)) w.heap.size 0 0 0 0 0) := Bx5.new _ _ _ _ _ _ _
  have HB : Hid (Below w.heap.size w (w.alloc (.cells #[.int .i64 0, .int .i64 0, .int .i64 0, .int .i64 0, .int .i64 0] 30))) := (Below.refl _ _).alloc (Nat.le_refl _) _
  have HF : Hid (Fr5 (w.alloc (.cells #[.int .i64 0, .int .i64 0, .int .i64 0, .int .i64 0, .int .i64 0] 30)) w.heap.size) := Fr5.new _ _ _ _ _ _ _
  have hlm : xs.length ≤ 9223372036854775807 := by unfold maxLen at h2; omega
  clear h
  go_enter Try.func23, Try.ntmps23
  go_wp2_with fail
  go_loop [6] (fun i => ∃ (j : Nat), j ≤ xs.length ∧ i = .int .i64 j ∧ Hid (∀ t, t < j → (atA xs t).id ≠ id)) (fun i => ((xs.length : Int) - intOf i).toNat)
  case atStart => exact ⟨0, by omega, rfl, fun t ht => by omega⟩
  case round =>
    obtain ⟨j, hj, rfl, HJ⟩ := hrel
    by_cases hlt : (j : Int) < xs.length
    · obtain ⟨b, o, rfl, h4⟩ := h3 (by omega)
      obtain ⟨k0, k1, k2, k3, k4⟩ := h4 j (by omega)
      have hb := HB.out
      have c0 := cell_later hb k0
      have c1 := cell_later hb k1
      have c2 := cell_later hb k2
      have c3 := cell_later hb k3
      have c4 := cell_later hb k4
      have sb : b < w.heap.size := World.block_lt_of_cell? _ _ k0
      have HN : Hid ((atA xs j).id ≠ id → ∀ t, t < j + 1 → (atA xs t).id ≠ id) := fun e t ht => by
        rcases (show t = j ∨ t < j by omega) with rfl | h
        · exact e
        · exact HJ.out t h
      have HY : Hid ((atA xs j).id = id → fdA xs id = some (atA xs j)) := fun e => fd_at (by omega) e HJ.out
      clear h3 h4 hb HJ k0 k1 k2 k3 k4
      generalize atA xs j = a at *
      obtain ⟨ii, dd, cc, vv, rr⟩ := a
      simp only at c0 c1 c2 c3 c4 HN HY
      by_cases e : ii = id
      · have e' : (ii == id) = true := by simpa using e
        have HE : Hid (fdA xs id = some ⟨ii, dd, cc, vv, rr⟩) := HY.out e
        clear e HN HY
        go_wp2_with fail
        refine bodyPost_ret (v := .tuple #[apV ⟨ii, dd, cc, vv, rr⟩, .bool true]) ?_ rfl ⟨by rw [HE.out]; rfl, (Below.refl _ _).alloc (Nat.le_refl _) _⟩
        simp [results, Try.results23, go_sem, apV]
      · have e' : (ii == id) = false := by simpa using e
        have HN2 : Hid (∀ t, t < j + 1 → (atA xs t).id ≠ id) := HN.out e
        clear e HN HY
        go_wp2_with fail
        go_round
        case rel => exact ⟨j + 1, by omega, by go_num, HN2.out⟩
        case measure => simp [intOf]; omega
    · have HE : Hid (fdA xs id = none) := fd_none (fun t ht => HJ.out t (by omega))
      go_wp2_with fail
      refine bodyPost_ret (v := .tuple #[apV apZ, .bool false]) ?_ rfl ⟨by rw [HE.out]; rfl, (Below.refl _ _).alloc (Nat.le_refl _) _⟩
      simp [results, Try.results23, go_sem, apV, apZ]

/-- What holds of who is gone, as they are asked one by one. -/
structure GonR (xs : List Ap) (now : Int) (P : List Ap) (r : Ap) (gs : List Int) : Prop where
  sub : gs.Sublist (idsA P)
  lax : ∀ x ∈ gs, ∃ a ∈ P, a.id = x ∧ laxA a now ≤ 0
  zero : r = apZ → gs = []
  not : r ≠ apZ → r.id ∉ gs
theorem gon_step {xs P : List Ap} {now : Int} {r a : Ap} {gs : List Int} (h : GonR xs now P r gs) (hd : (idsA (P ++ [a])).Nodup) (hr : r = apZ ∨ r ∈ xs) (hx : (idsA xs).Nodup) (ha : a ∈ xs) (hz : a ≠ apZ) : GonR xs now (P ++ [a]) (stpA now (r, gs) a).1 (stpA now (r, gs) a).2 := by
  have e : idsA (P ++ [a]) = idsA P ++ [a.id] := by unfold idsA; rw [List.map_append]; rfl
  have more : ∀ x ∈ gs, ∃ b ∈ P ++ [a], b.id = x ∧ laxA b now ≤ 0 := fun x hx => by
    obtain ⟨b, hb, h1, h2⟩ := h.lax x hx
    exact ⟨b, by simp [hb], h1, h2⟩
  have wide : gs.Sublist (idsA (P ++ [a])) := by rw [e]; exact h.sub.trans (List.sublist_append_left _ _)
  have fresh : a.id ∉ gs := fun hm => by
    rw [e, List.nodup_append] at hd
    exact hd.2.2 _ (h.sub.subset hm) _ (by simp) rfl
  unfold stpA
  split
  · exact ⟨wide, more, h.zero, h.not⟩
  · next c =>
    have c1 : eqA a r = false := by
      cases q : eqA a r
      · rfl
      · exact absurd (.inl q) c
    have c2 : laxA a now ≤ 0 := by
      have : ¬ 0 < laxA a now := fun q => c (.inr q)
      omega
    split
    · exact ⟨wide, more, fun e2 => absurd e2 hz, fun _ => fresh⟩
    · next y =>
      refine ⟨by rw [e]; exact List.Sublist.append h.sub (List.Sublist.refl _), fun x hx => ?_, fun e2 => ?_, fun e2 => ?_⟩
      · rcases List.mem_append.1 hx with hx | hx
        · exact more x hx
        · rw [List.mem_singleton] at hx
          exact ⟨a, by simp, hx.symm, c2⟩
      · exfalso
        apply y
        unfold yldB
        rw [show eqA r apZ = true from eqA_iff.2 e2, Bool.true_or]
      · intro hm
        rcases List.mem_append.1 hm with hm | hm
        · exact h.not e2 hm
        · rw [List.mem_singleton] at hm
          rcases hr with hr | hr
          · exact e2 hr
          · exact (eqA_no.1 c1) (key_same hx ha hr hm.symm)
theorem gon_run {xs L : List Ap} {now : Int} (hx : (idsA xs).Nodup) (hL : ∀ a ∈ L, a ∈ xs) (hz : ∀ a ∈ xs, a ≠ apZ) : ∀ (M P : List Ap) (r : Ap) (gs : List Int), P ++ M = L → (idsA L).Nodup → (r = apZ ∨ r ∈ xs) → GonR xs now P r gs → GonR xs now L (M.foldl (stpA now) (r, gs)).1 (M.foldl (stpA now) (r, gs)).2 := by
  intro M
  induction M with
  | nil => intro P r gs e _ _ h; rw [List.append_nil] at e; subst e; exact h
  | cons a M ih =>
    intro P r gs e hd hr h
    have hal : a ∈ xs := hL a (by rw [← e]; simp)
    rw [List.foldl_cons]
    have hr' : (stpA now (r, gs) a).1 = apZ ∨ (stpA now (r, gs) a).1 ∈ xs := by
      unfold stpA
      split
      · exact hr
      · split
        · exact .inr hal
        · exact hr
    have hd' : (idsA (P ++ [a])).Nodup := by
      have e2 : L = (P ++ [a]) ++ M := by rw [← e]; simp
      rw [e2] at hd
      unfold idsA at hd ⊢
      rw [List.map_append] at hd
      exact (List.nodup_append.1 hd).1
    exact ih (P ++ [a]) (stpA now (r, gs) a).1 (stpA now (r, gs) a).2 (by rw [← e]; simp) hd hr' (gon_step h hd' hr hx hal (hz a hal))
theorem two_len (xs : List Ap) (now : Int) : (lateA xs now).length + (ableA xs now).length = xs.length := by
  unfold lateA ableA
  rw [idsA_len]
  induction xs with
  | nil => rfl
  | cons a xs ih =>
    rw [List.filter_cons, List.filter_cons]
    cases c : ableB now a <;> simp at ih ⊢ <;> omega
theorem late_in {xs : List Ap} {now x : Int} (h : x ∈ lateA xs now) : ∃ a ∈ xs, a.id = x ∧ laxA a now < 0 := by
  unfold lateA idsA at h
  obtain ⟨a, ha, e⟩ := List.mem_map.1 h
  obtain ⟨h1, h2⟩ := List.mem_filter.1 ha
  refine ⟨a, h1, e, ?_⟩
  unfold ableB at h2
  simp at h2
  exact h2
theorem late_nodup {xs : List Ap} (now : Int) (h : (idsA xs).Nodup) : (lateA xs now).Nodup := by
  unfold idsA lateA at *
  exact h.sublist (List.filter_sublist.map _)
/-- What holds of who runs, and of who is gone. -/
structure CanR (xs : List Ap) (now : Int) (p : Int) (g : List Int) : Prop where
  lax : ∀ x ∈ g, ∃ a ∈ xs, a.id = x ∧ laxA a now ≤ 0 ∧ x ≠ p
  nodup : g.Nodup
  out : p ∉ idsA xs → p = -1 ∧ g.length = xs.length
  ins : ∀ a ∈ xs, a.id = p → 0 ≤ laxA a now ∧ g.length < xs.length
theorem pick_can {xs : List Ap} {cur now : Int} (hm : mayL xs now = true) : CanR xs now (pickA xs cur now).1 (pickA xs cur now).2 := by
  obtain ⟨_, _, nd, hall⟩ := mayL_iff.1 hm
  have htl := two_len xs now
  have hln := late_nodup now nd
  have neg : ∀ a ∈ xs, a.id ≠ -1 := fun a ha e => by have := (mayA_iff.1 (hall a ha)).1; omega
  have able_lax : ∀ a ∈ ableA xs now, 0 ≤ laxA a now := fun a ha => by
    have := (List.mem_filter.1 ha).2
    unfold ableB at this
    simpa using this
  have apart : ∀ x ∈ lateA xs now, ∀ a ∈ ableA xs now, x ≠ a.id := fun x hx a ha e => by
    obtain ⟨b, hb, e1, e2⟩ := late_in hx
    have e3 : b = a := key_same nd hb (able_sub ha) (by omega)
    have := able_lax a ha
    rw [e3] at e2
    omega
  -- of one that is picked among those that can
  have main : ∀ (a : Ap) (gs : List Int), a ∈ ableA xs now → gs.Sublist (idsA (ordA (ableA xs now))) → (∀ x ∈ gs, ∃ b ∈ ordA (ableA xs now), b.id = x ∧ laxA b now ≤ 0) → a.id ∉ gs → CanR xs now a.id (lateA xs now ++ gs) := by
    intro a gs ha hs hl hn
    have ndo : (idsA (ordA (ableA xs now))).Nodup := ids_ord (able_nodup now nd)
    have hmo : ∀ b ∈ ordA (ableA xs now), b ∈ ableA xs now := fun b hb => (ordA_perm _).mem_iff.1 hb
    have hlen : gs.length < (ableA xs now).length := by
      have h1 := hs.length_le
      rw [idsA_len, ordA_len] at h1
      rcases Nat.lt_or_eq_of_le h1 with h2 | h2
      · exact h2
      · exfalso
        have : gs = idsA (ordA (ableA xs now)) := hs.eq_of_length (by rw [idsA_len, ordA_len]; exact h2)
        apply hn
        rw [this]
        exact List.mem_map_of_mem ((ordA_perm _).mem_iff.2 ha)
    refine ⟨fun x hx => ?_, ?_, fun h => absurd (List.mem_map_of_mem (able_sub ha)) h, fun b hb e => ?_⟩
    · rcases List.mem_append.1 hx with hx | hx
      · obtain ⟨b, hb, e1, e2⟩ := late_in hx
        exact ⟨b, hb, e1, by omega, apart x hx a ha⟩
      · obtain ⟨b, hb, e1, e2⟩ := hl x hx
        exact ⟨b, able_sub (hmo b hb), e1, e2, fun e => hn (by rw [← e]; exact hx)⟩
    · rw [List.nodup_append]
      refine ⟨hln, ndo.sublist hs, fun x hx y hy e => ?_⟩
      obtain ⟨b, hb, e1, _⟩ := hl y hy
      exact apart x hx b (hmo b hb) (by omega)
    · have : b = a := key_same nd hb (able_sub ha) e
      rw [this]
      refine ⟨able_lax a ha, ?_⟩
      rw [List.length_append]
      omega
  have first : (ableA xs now).length ≠ 0 → atA (ordA (ableA xs now)) 0 ∈ ableA xs now := fun h => (ordA_perm _).mem_iff.1 (atA_mem (by rw [ordA_len]; omega))
  unfold pickA
  rw [hm]
  simp only [if_true]
  split
  · next hz =>
    simp only
    refine ⟨fun x hx => ?_, hln, fun _ => ⟨rfl, by omega⟩, fun a ha e => absurd e (neg a ha)⟩
    obtain ⟨b, hb, e1, e2⟩ := late_in hx
    exact ⟨b, hb, e1, by omega, fun e => neg b hb (by omega)⟩
  · next hz =>
    split
    · have := main _ [] (first hz) (List.nil_sublist _) (fun x hx => by simp at hx) (by simp)
      rwa [List.append_nil] at this
    · simp only
      have hmo : ∀ b ∈ ordA (ableA xs now), b ∈ ableA xs now := fun b hb => (ordA_perm _).mem_iff.1 hb
      have nz : ∀ a ∈ ableA xs now, a ≠ apZ := fun a ha e => by
        have := (mayA_iff.1 (hall a (able_sub ha))).2.1
        rw [e] at this
        simp [apZ] at this
      have hin := lkA_in (xs := ableA xs now) (j := (ableA xs now).length) (id := cur) (Nat.le_refl _)
      have hG := gon_run (xs := ableA xs now) (L := ordA (ableA xs now)) (now := now) (able_nodup now nd) hmo nz (ordA (ableA xs now)) [] (lkA (ableA xs now) (ableA xs now).length cur) [] rfl (ids_ord (able_nodup now nd)) hin
        ⟨List.nil_sublist _, fun x hx => by simp at hx, fun _ => rfl, fun _ => by simp⟩
      have hri := runA_in (now := now) (r := lkA (ableA xs now) (ableA xs now).length cur) hin hmo
      unfold contA
      simp only
      change GonR _ _ _ (runA now (lkA (ableA xs now) (ableA xs now).length cur) (ordA (ableA xs now))).1 (runA now (lkA (ableA xs now) (ableA xs now).length cur) (ordA (ableA xs now))).2 at hG
      generalize runA now (lkA (ableA xs now) (ableA xs now).length cur) (ordA (ableA xs now)) = s at *
      split
      · next c =>
        have := hG.zero (eqA_iff.1 c)
        rw [this]
        exact main _ [] (first hz) (List.nil_sublist _) (fun x hx => by simp at hx) (by simp)
      · next c =>
        have hne : s.1 ≠ apZ := fun e => c (eqA_iff.2 e)
        rcases hri with h | h
        · exact absurd h hne
        · exact main _ s.2 h hG.sub hG.lax (hG.not hne)
end Go.Proofs.Ytjaaabliefcgaaa
