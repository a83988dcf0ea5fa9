/- Who runs of jobs that can't all end: in numbers; walk of dover's contend. -/
import Derived.Test.YtjaaabliefcgaaaO9
import Derived.Test.YtjaaabliefcgaaaO10
namespace Go.Proofs.Ytjaaabliefcgaaa
open Go.RowKit Go.Maps Go.Shelf

/-- What one job that is asked comes to: who runs, and who is gone. -/
def stpA (now : Int) (s : Ap × List Int) (a : Ap) : Ap × List Int :=
  if eqA a s.1 = true ∨ 0 < laxA a now then s else if yldB s.1 a = true then (a, s.2) else (s.1, s.2 ++ [a.id])
def runA (now : Int) (r : Ap) (L : List Ap) : Ap × List Int := L.foldl (stpA now) (r, [])
def contA (xs : List Ap) (cur now : Int) : Int × List Int :=
  ((if eqA (runA now (lkA xs xs.length cur) (ordA xs)).1 apZ = true then (atA (ordA xs) 0).id else (runA now (lkA xs xs.length cur) (ordA xs)).1.id), (runA now (lkA xs xs.length cur) (ordA xs)).2)
theorem runA_next {L : List Ap} {j : Nat} (h : j < L.length) (now : Int) (r : Ap) : runA now r (L.take (j + 1)) = stpA now (runA now r (L.take j)) (atA L j) := by
  rw [takeA_next h]; unfold runA; rw [List.foldl_append]; rfl
theorem runA_len (now : Int) (r : Ap) (L : List Ap) : (runA now r L).2.length ≤ L.length := by
  suffices h : ∀ (L : List Ap) (s : Ap × List Int), (L.foldl (stpA now) s).2.length ≤ s.2.length + L.length by
    have h1 := h L (r, [])
    simp only [List.length_nil, Nat.zero_add] at h1
    exact h1
  intro L
  induction L with
  | nil => intro s; simp
  | cons a L ih =>
    intro s
    rw [List.foldl_cons]
    have h1 := ih (stpA now s a)
    have h2 : (stpA now s a).2.length ≤ s.2.length + 1 := by
      unfold stpA; split
      · omega
      · split <;> simp
    simp only [List.length_cons]
    omega
theorem lkA_of {xs : List Ap} (hd : (idsA xs).Nodup) : ∀ (j i : Nat), i < j → j ≤ xs.length → lkA xs j (atA xs i).id = atA xs i := by
  intro j
  induction j with
  | zero => intro i h; omega
  | succ j ih =>
    intro i h hj
    unfold lkA
    by_cases c : (atA xs j).id = (atA xs i).id
    · rw [if_pos c]
      have e : j = i := by
        have h1 : (idsA xs)[j]? = some (atA xs j).id := by unfold idsA; rw [List.getElem?_map, atA_get (by omega)]; rfl
        have h2 : (idsA xs)[i]? = some (atA xs i).id := by unfold idsA; rw [List.getElem?_map, atA_get (by omega)]; rfl
        rw [c, ← h2] at h1
        exact (List.getElem?_inj (i := j) (by rw [idsA_len]; omega) hd).1 h1
      rw [e]
    · rw [if_neg c]
      exact ih i (by have : i ≠ j := fun e => c (by rw [e]); omega) (by omega)
theorem lkA_mem {xs : List Ap} (hd : (idsA xs).Nodup) {a : Ap} (ha : a ∈ xs) : lkA xs xs.length a.id = a := by
  obtain ⟨i, hi, e⟩ := List.getElem_of_mem ha
  have := lkA_of hd xs.length i hi (Nat.le_refl _)
  rwa [atA_of (List.getElem?_eq_getElem hi), e] at this
theorem lkA_in {xs : List Ap} : ∀ {j : Nat} {id : Int}, j ≤ xs.length → lkA xs j id = apZ ∨ lkA xs j id ∈ xs
  | 0, _, _ => .inl rfl
  | j + 1, id, h => by
    unfold lkA
    split
    · exact .inr (atA_mem (by omega))
    · exact lkA_in (by omega)
theorem runA_in {xs : List Ap} {now : Int} {r : Ap} {L : List Ap} (hr : r = apZ ∨ r ∈ xs) (hL : ∀ a ∈ L, a ∈ xs) : (runA now r L).1 = apZ ∨ (runA now r L).1 ∈ xs := by
  suffices h : ∀ (L : List Ap) (s : Ap × List Int), (s.1 = apZ ∨ s.1 ∈ xs) → (∀ a ∈ L, a ∈ xs) → (L.foldl (stpA now) s).1 = apZ ∨ (L.foldl (stpA now) s).1 ∈ xs from h L (r, []) hr hL
  intro L
  induction L with
  | nil => intro s h _; exact h
  | cons a L ih =>
    intro s h hL
    rw [List.foldl_cons]
    refine ih _ ?_ (fun b hb => hL b (List.mem_cons_of_mem _ hb))
    unfold stpA
    split
    · exact h
    · split
      · exact .inr (hL a List.mem_cons_self)
      · exact h

/-- A boxed one that may be written. -/
def Fr5 (w : World) (b : Nat) : Prop := w.frozen? ⟨b, 0, none⟩ = false ∧ w.frozen? ⟨b, 1, none⟩ = false ∧ w.frozen? ⟨b, 2, none⟩ = false ∧ w.frozen? ⟨b, 3, none⟩ = false ∧ w.frozen? ⟨b, 4, none⟩ = false
theorem Fr5.new (w : World) (i d c v r : Int) (t : TypeId) : Fr5 (w.alloc (.cells #[.int .i64 i, .int .i64 d, .int .i64 c, .int .i64 v, .int .i64 r] t)) w.heap.size := by
  have hg := heap_alloc_new w (.cells #[.int .i64 i, .int .i64 d, .int .i64 c, .int .i64 v, .int .i64 r] t)
  exact ⟨frozen_of_row _ _ _ _ t hg, frozen_of_row _ _ _ _ t hg, frozen_of_row _ _ _ _ t hg, frozen_of_row _ _ _ _ t hg, frozen_of_row _ _ _ _ t hg⟩
theorem Fr5.kept {w w' : World} {b : Nat} {row : Option Nat} (h : Fr5 w b) (hl : b < w.heap.size) (hg : w.grownBy w' row) (hne : some b ≠ row) : Fr5 w' b := by
  have hb := hg.block b hl hne
  obtain ⟨h0, h1, h2, h3, h4⟩ := h
  exact ⟨(World.frozen?_of_block (w := w) (a := ⟨b, 0, none⟩) hb).trans h0, (World.frozen?_of_block (w := w) (a := ⟨b, 1, none⟩) hb).trans h1, (World.frozen?_of_block (w := w) (a := ⟨b, 2, none⟩) hb).trans h2, (World.frozen?_of_block (w := w) (a := ⟨b, 3, none⟩) hb).trans h3, (World.frozen?_of_block (w := w) (a := ⟨b, 4, none⟩) hb).trans h4⟩
def set5 (w : World) (b : Nat) (i d c v r : Int) : World := ((((w.setCell ⟨b, 0, none⟩ (.int .i64 i)).setCell ⟨b, 1, none⟩ (.int .i64 d)).setCell ⟨b, 2, none⟩ (.int .i64 c)).setCell ⟨b, 3, none⟩ (.int .i64 v)).setCell ⟨b, 4, none⟩ (.int .i64 r)
theorem set5_grown (w : World) (b : Nat) (i d c v r : Int) : w.grownBy (set5 w b i d c v r) (some b) := ((((setCell_grown w b _ _).trans (setCell_grown _ _ _ _)).trans (setCell_grown _ _ _ _)).trans (setCell_grown _ _ _ _)).trans (setCell_grown _ _ _ _)
theorem set5_box {w : World} {b : Nat} {i d c v r : Int} (i' d' c' v' r' : Int) (h : Bx5 w b i d c v r) : Bx5 (set5 w b i' d' c' v' r') b i' d' c' v' r' := by
  obtain ⟨h0, h1, h2, h3, h4⟩ := h
  unfold set5 Bx5
  refine ⟨?_, ?_, ?_, ?_, ?_⟩ <;> simp [go_sem, h0, h1, h2, h3, h4]
theorem set5_frozen {w : World} {b : Nat} (i' d' c' v' r' : Int) (h : Fr5 w b) : Fr5 (set5 w b i' d' c' v' r') b := by
  obtain ⟨h0, h1, h2, h3, h4⟩ := h
  unfold set5 Fr5
  simp only [World.frozen?_setCell]
  exact ⟨h0, h1, h2, h3, h4⟩

/-- What holds ahead of each round. -/
structure ConR (w wr : World) (bm go rb n cap : Nat) (xs : List Ap) (gv : Value) (gs : List Int) (r : Ap) : Prop where
  map : MapA wr bm xs
  ids : wr.ownsRow bm 3 1 (.slice (some ⟨go, 0, none⟩) n cap) n (ivs (idsA (ordA xs)))
  box : Bx5 wr rb r.id r.due r.c r.v r.r
  frz : Fr5 wr rb
  gon : OwnN wr (rb + 1) gv gs
  bel : Below w.heap.size w wr
theorem ConR.kept {w wr w' : World} {bm go rb n cap : Nat} {xs : List Ap} {gv : Value} {gs : List Int} {r : Ap} (h : ConR w wr bm go rb n cap xs gv gs r) (hb : Below wr.heap.size wr w') : ConR w w' bm go rb n cap xs gv gs r :=
  ⟨h.map.later hb, own_laterF h.ids hb, h.box.later hb, h.frz.kept h.box.lt (grown_below hb) (by simp), h.gon.later hb, h.bel.trans (hb.mono h.bel.size)⟩
theorem ConR.set {w wr : World} {bm go rb n cap : Nat} {xs : List Ap} {gv : Value} {gs : List Int} {r : Ap} (h : ConR w wr bm go rb n cap xs gv gs r) (h1 : bm < rb) (h2 : go < rb) (h3 : w.heap.size ≤ rb) (i d c v e : Int) : ConR w (set5 wr rb i d c v e) bm go rb n cap xs gv gs ⟨i, d, c, v, e⟩ := by
  have hg := set5_grown wr rb i d c v e
  exact ⟨h.map.kept hg (by simp; omega), h.ids.kept hg (.inr (by simp [Value.ownBlock]; omega)), set5_box _ _ _ _ _ h.box, set5_frozen _ _ _ _ _ h.frz, h.gon.kept hg (fun k hk => by cases hk; omega), h.bel.grown hg h.bel.size (fun k hk => by cases hk; exact h3)⟩
theorem ConR.more {w wr w' : World} {bm go rb n cap : Nat} {xs : List Ap} {gv gv' : Value} {gs gs' : List Int} {r : Ap} (h : ConR w wr bm go rb n cap xs gv gs r) (h1 : bm < rb) (h2 : go < rb) (h3 : w.heap.size ≤ rb) (hg : wr.grownBy w' gv.ownBlock) (hn : OwnN w' (rb + 1) gv' gs') : ConR w w' bm go rb n cap xs gv' gs' r := by
  have low := h.gon.low
  have ne : ∀ k, k ≤ rb → some k ≠ gv.ownBlock := fun k hk e => by have := low k e.symm; omega
  exact ⟨h.map.kept hg (ne _ (by omega)), h.ids.kept hg (.inr (by simp [Value.ownBlock]; exact ne go (by omega))), h.box.kept hg (ne _ (Nat.le_refl _)), h.frz.kept h.box.lt hg (ne _ (Nat.le_refl _)), hn, h.bel.grown hg h.bel.size (fun k hk => by have := low k hk; omega)⟩

/-- What contend answers. -/
def ContE (xs : List Ap) (cur now : Int) (w : World) (e : Ending) (w' : World) : Prop :=
  ∃ g, e = .returned (.tuple #[.int .i64 (contA xs cur now).1, g]) ∧ OwnN w' w.heap.size g (contA xs cur now).2 ∧ Below w.heap.size w w'

set_option maxHeartbeats 1000000 in
set_option maxRecDepth 100000 in
theorem contend_any (xs : List Ap) (v : Value) (cur now : Int) (w : World) (h : Aps w v xs) (hx : xs.length ≤ 10) (hp : 0 < xs.length) (hw : ∀ a ∈ xs, wfK a.key) (hn : nearL xs) (hd : (idsA xs).Nodup) (hc : okI cur) (h0 : -4503599627370496 ≤ now) (h1 : now ≤ 4503599627370496) :
    Calls Try.prog 26 #[v, .int .i64 cur, .int .i64 now] w (ContE xs cur now w) := by
  obtain ⟨i0, hi, hz0, hz1, hz2⟩ := info_parts Try.infoInt
  have HW : Hid (∀ a ∈ xs, wfK a.key) := hw
  have HA : Hid (Aps w v xs) := h
  have HE : Hid (contA xs cur now = ((if eqA (runA now (lkA xs xs.length cur) (ordA xs)).1 apZ = true then (atA (ordA xs) 0).id else (runA now (lkA xs xs.length cur) (ordA xs)).1.id), (runA now (lkA xs xs.length cur) (ordA xs)).2)) := rfl
  have HFA : Hid (∀ j, j < xs.length → nearA (atA (ordA xs) j) ∧ okI (atA (ordA xs) j).id ∧ lkA xs xs.length (atA (ordA xs) j).id = atA (ordA xs) j) := fun j hj => by
    have hm := (ordA_perm xs).mem_iff.1 (atA_mem (xs := ordA xs) (k := j) (by rw [ordA_len]; exact hj))
    exact ⟨hn _ hm, (hw _ hm).2, lkA_mem hd hm⟩
  have HLI : Hid (∀ j, j < xs.length → (idsA (ordA xs)).getD j 0 = (atA (ordA xs) j).id) := fun j hj => by
    have := atA_ordId hj
    simp [List.getD, this]
  have hL : (ordA xs).length = xs.length := ordA_len xs
  clear h hw hn hd
  go_enter Try.func26, Try.ntmps26
  go_wp2_with fail
  refine (byID_any xs _ w HA.out (by omega) HW.out).mono ?_
  rintro e w1 ⟨rfl, hm1, hb1⟩
  have hA1 := HA.out.later hb1
  have sz1 : w.heap.size < w1.heap.size := hm1.lt
  go_wp2_with fail
  refine (order13_any xs _ w1 hA1 (by omega) HW.out).mono ?_
  rintro e w2 ⟨u, rfl, hu, hb2⟩
  obtain ⟨go, cap, rfl, l1, l2, l3, l4⟩ : ∃ go cap, u = .slice (some ⟨go, 0, none⟩) xs.length cap ∧ w1.heap.size ≤ go ∧ go < w2.heap.size ∧ xs.length ≤ cap ∧ cap ≤ maxLen := by
    have hlt := hu.lt
    rcases hu.2 with ⟨_, h⟩ | ⟨g, cap, cur, rfl, b1, _, b2, b3, _⟩
    · omega
    · exact ⟨g, cap, rfl, b1, (hlt g rfl).2, b2, b3⟩
  have hm2 := hm1.later hb2
  have hlk := hm2.look hc
  have hb12 := hb1.trans (hb2.mono hb1.size)
  obtain ⟨⟨ri, rd, rc, rv, re⟩, hr⟩ : ∃ r, lkA xs xs.length cur = r := ⟨_, rfl⟩
  rw [hr] at hlk HE
  change (Instr.lookup 45 (.map (some w.heap.size)) (.int .i64 cur) false).run Try.prog w2 = .ok (.agg #[.int .i64 ri, .int .i64 rd, .int .i64 rc, .int .i64 rv, .int .i64 re]) w2 at hlk
  have H3 : Hid (ConR w (w2.alloc (.cells #[.int .i64 ri, .int .i64 rd, .int .i64 rc, .int .i64 rv, .int .i64 re] 30)) w.heap.size go w2.heap.size xs.length cap xs (.slice none 0 0) [] ⟨ri, rd, rc, rv, re⟩ ∧ runA now ⟨ri, rd, rc, rv, re⟩ ((ordA xs).take 0) = (⟨ri, rd, rc, rv, re⟩, [])) := by
    have hbb : Below w2.heap.size w2 (w2.alloc (.cells #[.int .i64 ri, .int .i64 rd, .int .i64 rc, .int .i64 rv, .int .i64 re] 30)) := (Below.refl _ _).alloc (Nat.le_refl _) _
    exact ⟨⟨hm2.later hbb, own_low (own_laterF hu hbb) (by omega), Bx5.new _ _ _ _ _ _ _, Fr5.new _ _ _ _ _ _ _, OwnN.nil _ _, hb12.trans (hbb.mono hb12.size)⟩, rfl⟩
  have s2 := hb2.size
  have HR0 : Hid (lkA xs xs.length cur = ⟨ri, rd, rc, rv, re⟩) := hr
  clear hm1 hb1 hA1 hu hb2 hm2 hb12 hr
  go_wp2_with fail
  clear hlk
  generalize hrb : w2.heap.size = rb at *
  clear hrb
  go_loopw [10, 24] (fun g i wr => ∃ (j : Nat) (gv : Value) (gs : List Int) (r : Ap), gv = g ∧ j ≤ xs.length ∧ i = .int .i64 j ∧ Hid (ConR w wr w.heap.size go rb xs.length cap xs gv gs r ∧ runA now ⟨ri, rd, rc, rv, re⟩ ((ordA xs).take j) = (r, gs)) ∧ rb < wr.heap.size) (fun _ i _ => ((xs.length : Int) - intOf i).toNat)
  case atStart => exact ⟨0, _, _, _, rfl, by omega, rfl, H3.out, H3.out.1.box.lt⟩
  case round =>
    clear H3
    obtain ⟨j, gv, gs, r, rfl, hj, rfl, HR, hrb⟩ := hrel
    by_cases hjl : (j : Int) < xs.length
    · obtain ⟨f1, f2, f3⟩ := HFA.out j (by omega)
      have k0 := (HR.out.1.ids.cellAt j (by omega)).trans (ivs_at (by rw [idsA_len]; omega))
      rw [HLI.out j (by omega)] at k0
      have hlk := HR.out.1.map.look f2
      rw [f3] at hlk
      have HNX : Hid (runA now ⟨ri, rd, rc, rv, re⟩ ((ordA xs).take (j + 1)) = stpA now (r, gs) (atA (ordA xs) j)) := by show _ = _; rw [runA_next (by omega), HR.out.2]
      have hgl : gs.length ≤ 10 := by
        have := runA_len now ⟨ri, rd, rc, rv, re⟩ ((ordA xs).take j)
        rw [HR.out.2, List.length_take] at this
        simp only at this
        omega
      have HRC : Hid (ConR w wr w.heap.size go rb xs.length cap xs gv gs r) := HR.out.1
      clear f3 HR
      generalize atA (ordA xs) j = a at *
      obtain ⟨ii, dd, cc, vv, rr⟩ := a
      obtain ⟨qi, qd, qc, qv, qe⟩ := r
      simp only at k0 f2
      change (Instr.lookup 45 (.map (some w.heap.size)) (.int .i64 ii) false).run Try.prog wr = .ok (.agg #[.int .i64 ii, .int .i64 dd, .int .i64 cc, .int .i64 vv, .int .i64 rr]) wr at hlk
      obtain ⟨y0, y1, y2, y3, y4⟩ := HRC.out.box
      simp only at y0 y1 y2 y3 y4
      have hE := fun w' => ap_eql ii dd cc vv rr qi qd qc qv qe w'
      have HST : Hid (stpA now (⟨qi, qd, qc, qv, qe⟩, gs) ⟨ii, dd, cc, vv, rr⟩ = if eqA ⟨ii, dd, cc, vv, rr⟩ ⟨qi, qd, qc, qv, qe⟩ = true ∨ 0 < laxA ⟨ii, dd, cc, vv, rr⟩ now then (⟨qi, qd, qc, qv, qe⟩, gs) else if yldB ⟨qi, qd, qc, qv, qe⟩ ⟨ii, dd, cc, vv, rr⟩ = true then (⟨ii, dd, cc, vv, rr⟩, gs) else (⟨qi, qd, qc, qv, qe⟩, gs ++ [ii])) := rfl
      have HC1 : Hid (ConR w (wr.alloc (.cells #[.int .i64 ii, .int .i64 dd, .int .i64 cc, .int .i64 vv, .int .i64 rr] 30)) w.heap.size go rb xs.length cap xs gv gs ⟨qi, qd, qc, qv, qe⟩) := HRC.out.kept ((Below.refl _ _).alloc (Nat.le_refl _) _)
      have HX1 : Hid (Bx5 (wr.alloc (.cells #[.int .i64 ii, .int .i64 dd, .int .i64 cc, .int .i64 vv, .int .i64 rr] 30)) wr.heap.size ii dd cc vv rr) := Bx5.new _ _ _ _ _ _ _
      obtain ⟨p, hp⟩ : ∃ p, eqA ⟨ii, dd, cc, vv, rr⟩ ⟨qi, qd, qc, qv, qe⟩ = p := ⟨_, rfl⟩
      rw [hp] at HST
      simp only [hp] at hE
      clear hp
      cases p
      rotate_left
      · have HSE : Hid (runA now ⟨ri, rd, rc, rv, re⟩ ((ordA xs).take (j + 1)) = (⟨qi, qd, qc, qv, qe⟩, gs)) := by show _ = _; rw [HNX.out, HST.out, if_pos (.inl rfl)]
        have hrb2 : rb < (wr.alloc (.cells #[.int .i64 ii, .int .i64 dd, .int .i64 cc, .int .i64 vv, .int .i64 rr] 30)).heap.size := by simp; omega
        clear HNX HST HRC
        go_wp2_with fail
        go_roundw
        case rel => exact ⟨j + 1, _, _, _, rfl, by omega, by go_num, ⟨HC1.out, HSE.out⟩, hrb2⟩
        case measure => simp [intOf]; omega
      go_wp2_with fail
      refine (lax_any ii dd cc vv rr now _ f1 (by omega) (by omega)).mono ?_
      rintro e w3 ⟨rfl, hb3⟩
      have HC3 : Hid (ConR w w3 w.heap.size go rb xs.length cap xs gv gs ⟨qi, qd, qc, qv, qe⟩) := HC1.out.kept hb3
      have HX3 : Hid (Bx5 w3 wr.heap.size ii dd cc vv rr) := HX1.out.later hb3
      have hrb3 : rb < w3.heap.size := HC3.out.box.lt
      obtain ⟨z0, z1, z2, z3, z4⟩ := HC3.out.box
      simp only at z0 z1 z2 z3 z4
      obtain ⟨x0, x1, x2, x3, x4⟩ := HX3.out
      obtain ⟨t, ht⟩ : ∃ t, laxA ⟨ii, dd, cc, vv, rr⟩ now = t := ⟨_, rfl⟩
      rw [ht] at HST ⊢
      clear ht y0 y1 y2 y3 y4 k0 hlk hb3 HC1 HX1 HRC hE
      by_cases hpos : 0 < t
      · have HSE : Hid (runA now ⟨ri, rd, rc, rv, re⟩ ((ordA xs).take (j + 1)) = (⟨qi, qd, qc, qv, qe⟩, gs)) := by show _ = _; rw [HNX.out, HST.out, if_pos (.inr hpos)]
        clear HNX HST
        go_wp2_with fail
        go_roundw
        case rel => exact ⟨j + 1, _, _, _, rfl, by omega, by go_num, ⟨HC3.out, HSE.out⟩, hrb3⟩
        case measure => simp [intOf]; omega
      have HSF : Hid (runA now ⟨ri, rd, rc, rv, re⟩ ((ordA xs).take (j + 1)) = if yldB ⟨qi, qd, qc, qv, qe⟩ ⟨ii, dd, cc, vv, rr⟩ = true then (⟨ii, dd, cc, vv, rr⟩, gs) else (⟨qi, qd, qc, qv, qe⟩, gs ++ [ii])) := by show _ = _; rw [HNX.out, HST.out, if_neg (by simp [hpos])]
      clear HNX HST
      go_wp2_with fail
      refine (yields_any qi qd qc qv qe ii dd cc vv rr _).mono ?_
      rintro e w4 ⟨rfl, hb4⟩
      have HC4 : Hid (ConR w w4 w.heap.size go rb xs.length cap xs gv gs ⟨qi, qd, qc, qv, qe⟩) := HC3.out.kept hb4
      have HX4 : Hid (Bx5 w4 wr.heap.size ii dd cc vv rr) := HX3.out.later hb4
      have hrb4 : rb < w4.heap.size := HC4.out.box.lt
      obtain ⟨u0, u1, u2, u3, u4⟩ := HC4.out.box
      simp only at u0 u1 u2 u3 u4
      obtain ⟨g0, g1, g2, g3, g4⟩ := HC4.out.frz
      obtain ⟨t0, t1, t2, t3, t4⟩ := HX4.out
      obtain ⟨y, hy⟩ : ∃ y, yldB ⟨qi, qd, qc, qv, qe⟩ ⟨ii, dd, cc, vv, rr⟩ = y := ⟨_, rfl⟩
      rw [hy] at HSF ⊢
      clear hy x0 x1 x2 x3 x4 z0 z1 z2 z3 z4 hb4 HC3 HX3
      cases y
      · have HSE : Hid (runA now ⟨ri, rd, rc, rv, re⟩ ((ordA xs).take (j + 1)) = (⟨qi, qd, qc, qv, qe⟩, gs ++ [ii])) := by show _ = _; rw [HSF.out]; rfl
        have HC5 : Hid (ConR w (w4.alloc (.cells #[.int .i64 ii] 3)) w.heap.size go rb xs.length cap xs gv gs ⟨qi, qd, qc, qv, qe⟩) := HC4.out.kept ((Below.refl _ _).alloc (Nat.le_refl _) _)
        clear HC4 HX4 HSF
        go_wp2_with (first
          | (at_builtin; refine wpList_append_own_at _ rfl _ _ 25 rfl (rb + 1) 3 i0 _ 1 8 Try.underlying25 hi hz0 hz1 hz2 rfl (by decide) gv _ _ rfl HC5.out.gon ⟨w4.heap.size, 0, none⟩ 1 1 [.int .i64 ii] rfl rfl (cell_one_new _ _ _) (by intro u hu; simp at hu; rw [hu]; rfl) (by unfold maxLen; omega) (by omega) (by simp; omega) ?_; intro v' w5 hown5 hg5 _ hat5))
        have HC6 : Hid (ConR w w5 w.heap.size go rb xs.length cap xs v' (gs ++ [ii]) ⟨qi, qd, qc, qv, qe⟩) := HC5.out.more (by omega) (by omega) (by omega) hg5 (by unfold OwnN; rw [List.length_append, ivs_app]; exact hown5)
        have hrb5 : rb < w5.heap.size := HC6.out.box.lt
        clear HC5 hown5 hg5 hat5 u0 u1 u2 u3 u4 g0 g1 g2 g3 g4 t0 t1 t2 t3 t4
        go_wp2_with fail
        go_roundw
        case rel => exact ⟨j + 1, _, _, _, rfl, by omega, by go_num, ⟨HC6.out, HSE.out⟩, hrb5⟩
        case measure => simp [intOf]; omega
      · have HSE : Hid (runA now ⟨ri, rd, rc, rv, re⟩ ((ordA xs).take (j + 1)) = (⟨ii, dd, cc, vv, rr⟩, gs)) := by show _ = _; rw [HSF.out]; rfl
        have HC5 : Hid (ConR w (set5 w4 rb ii dd cc vv rr) w.heap.size go rb xs.length cap xs gv gs ⟨ii, dd, cc, vv, rr⟩) := HC4.out.set (by omega) (by omega) (by omega) _ _ _ _ _
        have hrb5 : rb < (set5 w4 rb ii dd cc vv rr).heap.size := HC5.out.box.lt
        clear HC4 HX4 HSF
        go_wp2_with fail
        go_roundw
        case rel => exact ⟨j + 1, _, _, _, rfl, by omega, by go_num, ⟨HC5.out, HSE.out⟩, hrb5⟩
        case measure => simp [intOf]; omega
    · obtain rfl : j = xs.length := by omega
      have HRR : Hid (runA now ⟨ri, rd, rc, rv, re⟩ (ordA xs) = (r, gs)) := by
        have := HR.out.2
        rwa [List.take_of_length_le (by omega)] at this
      have k0 := (HR.out.1.ids.cellAt 0 (by omega)).trans (ivs_at (by rw [idsA_len]; omega))
      rw [HLI.out 0 (by omega)] at k0
      rw [HRR.out] at HE
      have HRC : Hid (ConR w wr w.heap.size go rb xs.length cap xs gv gs r) := HR.out.1
      clear HR
      obtain ⟨qi, qd, qc, qv, qe⟩ := r
      obtain ⟨y0, y1, y2, y3, y4⟩ := HRC.out.box
      simp only at y0 y1 y2 y3 y4
      obtain ⟨oi, ho⟩ : ∃ oi, (atA (ordA xs) 0).id = oi := ⟨_, rfl⟩
      rw [ho] at k0 HE
      clear ho
      go_wp2_with fail
      refine (none_any qi qd qc qv qe _).mono ?_
      rintro e w3 ⟨rfl, hb3⟩
      have HC3 : Hid (ConR w w3 w.heap.size go rb xs.length cap xs gv gs ⟨qi, qd, qc, qv, qe⟩) := HRC.out.kept hb3
      have c0 := cell_later hb3 k0
      obtain ⟨z0, z1, z2, z3, z4⟩ := HC3.out.box
      simp only at z0 z1 z2 z3 z4
      clear y0 y1 y2 y3 y4 k0 hb3
      obtain ⟨p, hp⟩ : ∃ p, eqA ⟨qi, qd, qc, qv, qe⟩ apZ = p := ⟨_, rfl⟩
      simp only [hp] at HE ⊢
      clear hp
      cases p
      · have HF : Hid (contA xs cur now = (qi, gs)) := by show _ = _; rw [HE.out]; rfl
        go_wp2_with fail
        go_ret2
        refine ⟨gv, by rw [HF.out]; rfl, ?_, HC3.out.bel⟩
        rw [HF.out]
        exact own_low HC3.out.gon (by omega)
      · have HF : Hid (contA xs cur now = (oi, gs)) := by show _ = _; rw [HE.out]; rfl
        go_wp2_with fail
        go_ret2
        refine ⟨gv, by rw [HF.out]; rfl, ?_, HC3.out.bel⟩
        rw [HF.out]
        exact own_low HC3.out.gon (by omega)
end Go.Proofs.Ytjaaabliefcgaaa
