/- Texts that belong together, one behind the other: O24, O25, O26, O27, O28, O29, O30. -/
import Derived.Test.YtjaaabliefcgaaaY3
import Derived.Test.YtjaaabliefcgaaaG2
import Derived.Test.YtjaaabliefcgaaaG4
/- The document's own words on jobs: how long one can wait, where one is; whether numbers are near. -/
namespace Go.Proofs.Ytjaaabliefcgaaa
open Go.RowKit Go.Maps Go.Shelf

set_option maxHeartbeats 1000000 in
set_option maxRecDepth 100000 in
theorem reflax_any (i d c v r now : Int) (w : World) (hn : nearA ⟨i, d, c, v, r⟩) (h0 : -36028797018963968 ≤ now) (h1 : now ≤ 36028797018963968) :
    Calls Try.prog 15 #[.agg #[.int .i64 i, .int .i64 d, .int .i64 c, .int .i64 v, .int .i64 r], .int .i64 now] w fun e w' => e = .returned (.int .i64 (laxA ⟨i, d, c, v, r⟩ now)) ∧ Below w.heap.size w w' := by
  unfold nearA at hn
  obtain ⟨n0, n1, n2, n3, n4, n5⟩ := hn
  simp only at n0 n1 n2 n3 n4 n5
  have q1 : IntKind.i64.wrap (c - r) = c - r := wrap_near (by omega) (by omega)
  have q2 : IntKind.i64.wrap (d - now) = d - now := wrap_near (by omega) (by omega)
  have q3 : IntKind.i64.wrap (d - now - (c - r)) = d - now - (c - r) := wrap_near (by omega) (by omega)
  clear n0 n1 n2 n3 n4 n5 h0 h1
  go_enter Try.func15, Try.ntmps15
  go_wp2
  go_ret
  refine ⟨?_, ?_⟩
  · rfl
  · exact (Below.refl _ _).alloc (Nat.le_refl _) _

/-- Where the first one of that ID stands. -/
structure AtA (xs : List Ap) (id : Int) (j : Nat) : Prop where
  lt : j < xs.length
  is : (atA xs j).id = id
  not : ∀ t, t < j → (atA xs t).id ≠ id
def AtE (xs : List Ap) (id : Int) (w : World) (e : Ending) (w' : World) : Prop :=
  w' = w ∧ ∃ p : Int, e = .returned (.int .i64 p) ∧ ((p = -1 ∧ ∀ t, t < xs.length → (atA xs t).id ≠ id) ∨ ∃ j : Nat, p = j ∧ AtA xs id j)
set_option maxHeartbeats 1000000 in
set_option maxRecDepth 100000 in
theorem at_any13 (xs : List Ap) (v : Value) (id : Int) (w : World) (h : Aps w v xs) :
    Calls Try.prog 28 #[v, .int .i64 id] w (AtE xs id w) := by
  obtain ⟨ad, cap, rfl, h1, h2, h0, h3⟩ := h.open
  have hlm : xs.length ≤ 9223372036854775807 := by unfold maxLen at h2; omega
  clear h
  go_enter Try.func28, Try.ntmps28
  go_wp2_with fail
  go_loop [5] (fun i => ∃ (j : Nat), j ≤ xs.length ∧ i = .int .i64 j ∧ Hid (∀ t, t < j → (atA xs t).id ≠ id)) (fun i => ((xs.length : Int) - intOf i).toNat)
  case atStart => exact ⟨0, by omega, rfl, fun t ht => by omega⟩
  case round =>
    obtain ⟨j, hj, rfl, HJ⟩ := hrel
    by_cases hlt : (j : Int) < xs.length
    · obtain ⟨b, o, rfl, h4⟩ := h3 (by omega)
      obtain ⟨k0, k1, k2, k3, k4⟩ := h4 j (by omega)
      have HN : Hid ((atA xs j).id ≠ id → ∀ t, t < j + 1 → (atA xs t).id ≠ id) := fun e t ht => by
        rcases (show t = j ∨ t < j by omega) with rfl | h
        · exact e
        · exact HJ.out t h
      have HY : Hid ((atA xs j).id = id → AtA xs id j) := fun e => ⟨by omega, e, HJ.out⟩
      clear h3 h4 HJ k1 k2 k3 k4
      generalize atA xs j = a at *
      obtain ⟨ii, dd, cc, vv, rr⟩ := a
      simp only at k0 HN HY
      by_cases e : ii = id
      · have e' : (ii == id) = true := by simpa using e
        have HE : Hid (AtA xs id j) := HY.out e
        clear e HN HY
        go_wp2
        go_ret
        exact ⟨rfl, _, rfl, .inr ⟨j, rfl, HE.out⟩⟩
      · have e' : (ii == id) = false := by simpa using e
        have HN2 : Hid (∀ t, t < j + 1 → (atA xs t).id ≠ id) := HN.out e
        clear e HN HY
        go_wp2_with fail
        go_round
        case rel => exact ⟨j + 1, by omega, by go_num, HN2.out⟩
        case measure => simp [intOf]; omega
    · have HE : Hid (∀ t, t < xs.length → (atA xs t).id ≠ id) := fun t ht => HJ.out t (by omega)
      go_wp2
      go_ret
      exact ⟨rfl, _, rfl, .inl ⟨rfl, HE.out⟩⟩

def NearE (xs : List Ap) (now : Int) (w : World) (e : Ending) (w' : World) : Prop :=
  Below w.heap.size w w' ∧ ∃ b : Bool, e = .returned (.bool b) ∧ (b = true → xs.length ≤ 10 ∧ nearL xs ∧ -1125899906842624 ≤ now ∧ now ≤ 1125899906842624)
def NearR (xs : List Ap) (now : Int) (j : Nat) (b : Bool) : Prop := b = true → xs.length ≤ 10 ∧ (∀ t, t < j → nearA (atA xs t)) ∧ -1125899906842624 ≤ now ∧ now ≤ 1125899906842624
theorem NearR.all {xs : List Ap} {now : Int} {b : Bool} (h : NearR xs now xs.length b) : b = true → xs.length ≤ 10 ∧ nearL xs ∧ -1125899906842624 ≤ now ∧ now ≤ 1125899906842624 := fun e => by
  obtain ⟨h1, h2, h3⟩ := h e
  refine ⟨h1, fun a ha => ?_, h3⟩
  obtain ⟨t, ht, et⟩ := List.getElem_of_mem ha
  have := h2 t ht
  rwa [atA_of (List.getElem?_eq_getElem ht), et] at this
theorem NearR.next {xs : List Ap} {now : Int} {j : Nat} (h : NearR xs now j true) (ha : nearA (atA xs j)) : NearR xs now (j + 1) true := fun _ => by
  obtain ⟨h1, h2, h3⟩ := h rfl
  refine ⟨h1, fun t ht => ?_, h3⟩
  rcases (show t = j ∨ t < j by omega) with rfl | h
  · exact ha
  · exact h2 t h

set_option maxHeartbeats 4000000 in
set_option maxRecDepth 100000 in
theorem near_any (xs : List Ap) (v : Value) (now : Int) (w : World) (h : Aps w v xs) :
    Calls Try.prog 11 #[v, .int .i64 now] w (NearE xs now w) := by
  obtain ⟨ad, cap, rfl, h1, h2, h0, h3⟩ := h.open
  have hlm : xs.length ≤ 9223372036854775807 := by unfold maxLen at h2; omega
  clear h
  by_cases c0 : (xs.length : Int) ≤ 10
  rotate_left
  · have HF : Hid (NearR xs now 0 false) := fun e => by cases e
    skip
    go_enter Try.func11, Try.ntmps11
    go_wp2_with fail
    go_loop [5, 6] (fun o i => o = .bool false ∧ i = .int .i64 0) (fun _ i => 0)
    case atStart => exact ⟨rfl, rfl⟩
    case round =>
      obtain ⟨rfl, rfl⟩ := hrel
      by_cases hlt : (0 : Int) < xs.length
      all_goals go_wp2
      all_goals go_ret
      all_goals exact ⟨Below.refl _ _, false, rfl, fun e => by cases e⟩
  by_cases c1 : now ≤ 1125899906842624
  rotate_left
  · have HF : Hid (NearR xs now 0 false) := fun e => by cases e
    skip
    go_enter Try.func11, Try.ntmps11
    go_wp2_with fail
    go_loop [5, 6] (fun o i => o = .bool false ∧ i = .int .i64 0) (fun _ i => 0)
    case atStart => exact ⟨rfl, rfl⟩
    case round =>
      obtain ⟨rfl, rfl⟩ := hrel
      by_cases hlt : (0 : Int) < xs.length
      all_goals go_wp2
      all_goals go_ret
      all_goals exact ⟨Below.refl _ _, false, rfl, fun e => by cases e⟩
  by_cases c2 : -1125899906842624 ≤ now
  rotate_left
  · have HF : Hid (NearR xs now 0 false) := fun e => by cases e
    skip
    go_enter Try.func11, Try.ntmps11
    go_wp2_with fail
    go_loop [5, 6] (fun o i => o = .bool false ∧ i = .int .i64 0) (fun _ i => 0)
    case atStart => exact ⟨rfl, rfl⟩
    case round =>
      obtain ⟨rfl, rfl⟩ := hrel
      by_cases hlt : (0 : Int) < xs.length
      all_goals go_wp2
      all_goals go_ret
      all_goals exact ⟨Below.refl _ _, false, rfl, fun e => by cases e⟩
  have HS : Hid (NearR xs now 0 true) := fun _ => ⟨by omega, fun t ht => by omega, c2, c1⟩
  go_enter Try.func11, Try.ntmps11
  go_wp2_with fail
  clear c0 c1 c2
  go_loopw [5, 6] (fun o i wr => ∃ (j : Nat) (b : Bool), j ≤ xs.length ∧ i = .int .i64 j ∧ o = .bool b ∧ Hid (NearR xs now j b) ∧ Below w.heap.size w wr) (fun _ i _ => ((xs.length : Int) - intOf i).toNat)
  case atStart => exact ⟨0, true, by omega, rfl, rfl, HS.out, Below.refl _ _⟩
  case round =>
    clear HS
    obtain ⟨j, b, hj, rfl, rfl, HR, hbw⟩ := hrel
    by_cases hlt : (j : Int) < xs.length
    rotate_left
    · obtain rfl : j = xs.length := by omega
      go_wp2
      go_ret
      exact ⟨hbw, b, rfl, HR.out.all⟩
    cases b
    · go_wp2
      go_ret
      exact ⟨hbw, false, rfl, fun e => by cases e⟩
    obtain ⟨bk, o, rfl, h4⟩ := h3 (by omega)
    obtain ⟨k0, k1, k2, k3, k4⟩ := h4 j (by omega)
    have c0 := cell_later hbw k0
    have c1 := cell_later hbw k1
    have c2 := cell_later hbw k2
    have c3 := cell_later hbw k3
    have c4 := cell_later hbw k4
    have HY : Hid (nearA (atA xs j) → NearR xs now (j + 1) true) := HR.out.next
    have HN : Hid (NearR xs now (j + 1) false) := fun e => by cases e
    clear h3 h4 k0 k1 k2 k3 k4 HR
    generalize atA xs j = a at *
    obtain ⟨ii, dd, cc, vv, rr⟩ := a
    simp only at c0 c1 c2 c3 c4
    have hbW : Below w.heap.size w (wr.alloc (.cells #[.int .i64 ii, .int .i64 dd, .int .i64 cc, .int .i64 vv, .int .i64 rr] 30)) := hbw.alloc hbw.size _
    by_cases d0 : dd ≤ 1125899906842624
    rotate_left
    · go_wp2_with fail
      go_roundw
      case rel => exact ⟨j + 1, false, by omega, by go_num, rfl, HN.out, hbW⟩
      case measure => simp [intOf]; omega
    by_cases d1 : -1125899906842624 ≤ dd
    rotate_left
    · go_wp2_with fail
      go_roundw
      case rel => exact ⟨j + 1, false, by omega, by go_num, rfl, HN.out, hbW⟩
      case measure => simp [intOf]; omega
    by_cases d2 : cc ≤ 1125899906842624
    rotate_left
    · go_wp2_with fail
      go_roundw
      case rel => exact ⟨j + 1, false, by omega, by go_num, rfl, HN.out, hbW⟩
      case measure => simp [intOf]; omega
    by_cases d3 : -1125899906842624 ≤ cc
    rotate_left
    · go_wp2_with fail
      go_roundw
      case rel => exact ⟨j + 1, false, by omega, by go_num, rfl, HN.out, hbW⟩
      case measure => simp [intOf]; omega
    by_cases d4 : rr ≤ 1125899906842624
    rotate_left
    · go_wp2_with fail
      go_roundw
      case rel => exact ⟨j + 1, false, by omega, by go_num, rfl, HN.out, hbW⟩
      case measure => simp [intOf]; omega
    by_cases d5 : -1125899906842624 ≤ rr
    rotate_left
    · go_wp2_with fail
      go_roundw
      case rel => exact ⟨j + 1, false, by omega, by go_num, rfl, HN.out, hbW⟩
      case measure => simp [intOf]; omega
    have HZ : Hid (NearR xs now (j + 1) true) := HY.out ⟨d1, d0, d3, d2, d5, d4⟩
    clear HY HN
    go_wp2_with fail
    go_roundw
    case rel => exact ⟨j + 1, true, by omega, by go_num, rfl, HZ.out, hbW⟩
    case measure => simp [intOf]; omega
end Go.Proofs.Ytjaaabliefcgaaa
/- The document's own word on whether jobs may be. -/
namespace Go.Proofs.Ytjaaabliefcgaaa
open Go.RowKit Go.Maps Go.Shelf

/-- What the first ones are. -/
def MayR (xs : List Ap) (j : Nat) : Prop := (∀ t, t < j → mayA (atA xs t) = true) ∧ ∀ t, t < j → ∀ k, k < t → (atA xs k).id ≠ (atA xs t).id
theorem MayR.next {xs : List Ap} {j : Nat} (h : MayR xs j) (ha : mayA (atA xs j) = true) (hk : ∀ k, k < j → (atA xs k).id ≠ (atA xs j).id) : MayR xs (j + 1) := by
  refine ⟨fun t ht => ?_, fun t ht => ?_⟩
  · rcases (show t = j ∨ t < j by omega) with rfl | h'
    · exact ha
    · exact h.1 t h'
  · rcases (show t = j ∨ t < j by omega) with rfl | h'
    · exact hk
    · exact h.2 t h'
theorem ids_at {xs : List Ap} {k : Nat} (h : k < xs.length) : (idsA xs)[k]? = some (atA xs k).id := by
  unfold idsA; rw [List.getElem?_map, atA_get h]; rfl
theorem MayR.all {xs : List Ap} {now : Int} (h : MayR xs xs.length) (hx : xs.length ≤ 4) (h0 : 0 ≤ now) (h1 : now ≤ 549755813888) : mayL xs now = true := by
  refine mayL_iff.2 ⟨hx, ⟨h0, h1⟩, ?_, fun a ha => ?_⟩
  · unfold List.Nodup
    rw [List.pairwise_iff_getElem]
    intro i j hi hj hij e
    have hj' := hj
    rw [idsA_len] at hj'
    have e1 := ids_at (show i < xs.length by omega)
    have e2 := ids_at hj'
    rw [List.getElem?_eq_getElem hi] at e1
    rw [List.getElem?_eq_getElem hj] at e2
    exact h.2 j hj' i hij (((Option.some.inj e1).symm.trans e).trans (Option.some.inj e2))
  · obtain ⟨t, ht, et⟩ := List.getElem_of_mem ha
    have := h.1 t ht
    rwa [atA_of (List.getElem?_eq_getElem ht), et] at this
theorem may_not {xs : List Ap} {j : Nat} (now : Int) (hj : j < xs.length) (h : ¬ mayA (atA xs j) = true) : mayL xs now = false := by
  cases c : mayL xs now
  · rfl
  · exact absurd ((mayL_iff.1 c).2.2.2 _ (atA_mem hj)) h
theorem may_twice {xs : List Ap} {j k : Nat} (now : Int) (hj : j < xs.length) (hk : k < j) (h : (atA xs k).id = (atA xs j).id) : mayL xs now = false := by
  cases c : mayL xs now
  · rfl
  · exfalso
    have hd := (mayL_iff.1 c).2.2.1
    have h1 := ids_at (show k < xs.length by omega)
    have h2 := ids_at hj
    rw [h, ← h2] at h1
    have := (List.getElem?_inj (i := k) (by rw [idsA_len]; omega) hd).1 h1
    omega
set_option maxHeartbeats 4000000 in
set_option maxRecDepth 100000 in
theorem refmay_any (xs : List Ap) (v : Value) (now : Int) (w : World) (h : Aps w v xs) :
    Calls Try.prog 17 #[v, .int .i64 now] w fun e w' => e = .returned (.bool (mayL xs now)) ∧ Below w.heap.size w w' := by
  obtain ⟨ad, cap, rfl, h1, h2, h0, h3⟩ := h.open
  have hlm : xs.length ≤ 9223372036854775807 := by unfold maxLen at h2; omega
  clear h
  by_cases c0 : now < 0
  · have HF : Hid (mayL xs now = false) := by
      show _ = _
      cases c : mayL xs now
      · rfl
      · have := mayL_iff.1 c
        omega
    go_enter Try.func17, Try.ntmps17
    go_wp2
    go_ret
    exact ⟨ret_b HF.out.symm, Below.refl _ _⟩
  by_cases c1 : 549755813888 < now
  · have HF : Hid (mayL xs now = false) := by
      show _ = _
      cases c : mayL xs now
      · rfl
      · have := mayL_iff.1 c
        omega
    go_enter Try.func17, Try.ntmps17
    go_wp2
    go_ret
    exact ⟨ret_b HF.out.symm, Below.refl _ _⟩
  by_cases c2 : (4 : Int) < xs.length
  · have HF : Hid (mayL xs now = false) := by
      show _ = _
      cases c : mayL xs now
      · rfl
      · have := mayL_iff.1 c
        omega
    go_enter Try.func17, Try.ntmps17
    go_wp2
    go_ret
    exact ⟨ret_b HF.out.symm, Below.refl _ _⟩
  have HT : Hid (MayR xs xs.length → mayL xs now = true) := fun h => h.all (by omega) (by omega) (by omega)
  go_enter Try.func17, Try.ntmps17
  go_wp2_with fail
  clear c0 c1 c2
  go_loopw [5] (fun i wr => ∃ (j : Nat), j ≤ xs.length ∧ i = .int .i64 j ∧ Hid (MayR xs j) ∧ Below w.heap.size w wr) (fun i _ => ((xs.length : Int) - intOf i).toNat)
  case atStart => exact ⟨0, by omega, rfl, ⟨fun t ht => by omega, fun t ht => by omega⟩, Below.refl _ _⟩
  case round =>
    obtain ⟨j, hj, rfl, HR, hbw⟩ := hrel
    by_cases hlt : (j : Int) < xs.length
    rotate_left
    · obtain rfl : j = xs.length := by omega
      have HF : Hid (mayL xs now = true) := HT.out HR.out
      go_wp2
      go_ret
      exact ⟨ret_b HF.out.symm, hbw⟩
    obtain ⟨bk, o, rfl, h4⟩ := h3 (by omega)
    have H4 : Hid (∀ i, i < xs.length → w.cell? ⟨bk, o + i * 5, none⟩ = some (.int .i64 (atA xs i).id)) := fun i hi => (h4 i hi).1
    obtain ⟨k0, k1, k2, k3, k4⟩ := h4 j (by omega)
    have c0 := cell_later hbw k0
    have c1 := cell_later hbw k1
    have c2 := cell_later hbw k2
    have c3 := cell_later hbw k3
    have c4 := cell_later hbw k4
    have HNO : Hid (¬ mayA (atA xs j) = true → mayL xs now = false) := may_not now (by omega)
    have HTW : Hid (∀ k, k < j → (atA xs k).id = (atA xs j).id → mayL xs now = false) := fun k hk e => may_twice now (by omega) hk e
    have HNX : Hid (mayA (atA xs j) = true → (∀ k, k < j → (atA xs k).id ≠ (atA xs j).id) → MayR xs (j + 1)) := HR.out.next
    clear h3 h4 k0 k1 k2 k3 k4 HR
    generalize atA xs j = a at *
    obtain ⟨ii, dd, cc, vv, rr⟩ := a
    simp only at c0 c1 c2 c3 c4 HTW HNX
    have hbW : Below w.heap.size w (wr.alloc (.cells #[.int .i64 ii, .int .i64 dd, .int .i64 cc, .int .i64 vv, .int .i64 rr] 30)) := hbw.alloc hbw.size _
    have HX : Hid (Bx5 (wr.alloc (.cells #[.int .i64 ii, .int .i64 dd, .int .i64 cc, .int .i64 vv, .int .i64 rr] 30)) wr.heap.size ii dd cc vv rr) := Bx5.new _ _ _ _ _ _ _
    by_cases d0 : ii < 0
    · have HF : Hid (mayL xs now = false) := HNO.out (fun e => by have := mayA_iff.1 e; simp only at this; omega)
      go_wp2
      go_ret
      exact ⟨ret_b HF.out.symm, hbW⟩
    by_cases d1 : 549755813888 < ii
    · have HF : Hid (mayL xs now = false) := HNO.out (fun e => by have := mayA_iff.1 e; simp only at this; omega)
      go_wp2
      go_ret
      exact ⟨ret_b HF.out.symm, hbW⟩
    by_cases d2 : dd < 1
    · have HF : Hid (mayL xs now = false) := HNO.out (fun e => by have := mayA_iff.1 e; simp only at this; omega)
      go_wp2
      go_ret
      exact ⟨ret_b HF.out.symm, hbW⟩
    by_cases d3 : 1099511627776 < dd
    · have HF : Hid (mayL xs now = false) := HNO.out (fun e => by have := mayA_iff.1 e; simp only at this; omega)
      go_wp2
      go_ret
      exact ⟨ret_b HF.out.symm, hbW⟩
    by_cases d4 : cc < 1
    · have HF : Hid (mayL xs now = false) := HNO.out (fun e => by have := mayA_iff.1 e; simp only at this; omega)
      go_wp2
      go_ret
      exact ⟨ret_b HF.out.symm, hbW⟩
    by_cases d5 : 40 < cc
    · have HF : Hid (mayL xs now = false) := HNO.out (fun e => by have := mayA_iff.1 e; simp only at this; omega)
      go_wp2
      go_ret
      exact ⟨ret_b HF.out.symm, hbW⟩
    by_cases d6 : vv < 1
    · have HF : Hid (mayL xs now = false) := HNO.out (fun e => by have := mayA_iff.1 e; simp only at this; omega)
      go_wp2
      go_ret
      exact ⟨ret_b HF.out.symm, hbW⟩
    by_cases d7 : 1000 < vv
    · have HF : Hid (mayL xs now = false) := HNO.out (fun e => by have := mayA_iff.1 e; simp only at this; omega)
      go_wp2
      go_ret
      exact ⟨ret_b HF.out.symm, hbW⟩
    by_cases d8 : rr < 0
    · have HF : Hid (mayL xs now = false) := HNO.out (fun e => by have := mayA_iff.1 e; simp only at this; omega)
      go_wp2
      go_ret
      exact ⟨ret_b HF.out.symm, hbW⟩
    by_cases d9 : cc ≤ rr
    · have HF : Hid (mayL xs now = false) := HNO.out (fun e => by have := mayA_iff.1 e; simp only at this; omega)
      go_wp2
      go_ret
      exact ⟨ret_b HF.out.symm, hbW⟩
    have HM : Hid (mayA ⟨ii, dd, cc, vv, rr⟩ = true) := by
      show _ = _
      refine mayA_iff.2 ?_
      simp only
      omega
    have HN : Hid ((∀ k, k < j → (atA xs k).id ≠ ii) → MayR xs (j + 1)) := fun h => HNX.out HM.out h
    clear HNO HNX HM
    go_wp2_with fail
    clear c0 c1 c2 c3 c4 d0 d1 d2 d3 d4 d5 d6 d7 d8 d9 hbw
    obtain ⟨q, hq⟩ : ∃ q, wr.heap.size = q := ⟨_, rfl⟩
    obtain ⟨W1, hW⟩ : ∃ W1, wr.alloc (.cells #[.int .i64 ii, .int .i64 dd, .int .i64 cc, .int .i64 vv, .int .i64 rr] 30) = W1 := ⟨_, rfl⟩
    rw [hW, hq] at HX
    rw [hW] at hbW ⊢
    rw [hq]
    clear hW hq
    go_loopw [7] (fun i wr => ∃ (k : Nat), k ≤ j ∧ i = .int .i64 k ∧ Hid (∀ t, t < k → (atA xs t).id ≠ ii) ∧ Below W1.heap.size W1 wr) (fun i _ => ((j : Int) - intOf i).toNat)
    case atStart => exact ⟨0, by omega, rfl, fun t ht => by omega, Below.refl _ _⟩
    case round =>
      obtain ⟨k, hk, rfl, HK, hbk⟩ := hrel
      by_cases hkj : (k : Int) < j
      · have hb2 := hbW.trans (hbk.mono hbW.size)
        have e0 := cell_later hb2 (H4.out k (by omega))
        obtain ⟨x0, x1, x2, x3, x4⟩ := HX.out.later hbk
        have HK2 : Hid ((atA xs k).id ≠ ii → ∀ t, t < k + 1 → (atA xs t).id ≠ ii) := fun e t ht => by
          rcases (show t = k ∨ t < k by omega) with rfl | h
          · exact e
          · exact HK.out t h
        have HTK : Hid ((atA xs k).id = ii → mayL xs now = false) := HTW.out k (by omega)
        clear HK hb2 x1 x2 x3 x4
        obtain ⟨y, hy⟩ : ∃ y, (atA xs k).id = y := ⟨_, rfl⟩
        rw [hy] at e0 HK2 HTK
        clear hy
        by_cases e : y = ii
        · have e' : (y == ii) = true := by simpa using e
          have HF : Hid (mayL xs now = false) := HTK.out e
          clear e HK2 HTK
          go_wp2_with fail
          go_quiet (fail)
          go_wp2
          go_ret
          exact ⟨ret_b HF.out.symm, hbW.trans ((⟨hbk.os, hbk.tape, hbk.output, hbk.size, hbk.block⟩ : Below W1.heap.size W1 (wr.drewN nq)).mono hbW.size)⟩
        · have e' : (y == ii) = false := by simpa using e
          have HK3 : Hid (∀ t, t < k + 1 → (atA xs t).id ≠ ii) := HK2.out e
          clear e HK2 HTK
          go_wp2_with fail
          go_quiet (fail)
          go_wp2_with fail
          go_roundw
          case rel => exact ⟨k + 1, by omega, by go_num, HK3.out, ⟨hbk.os, hbk.tape, hbk.output, hbk.size, hbk.block⟩⟩
          case measure => simp [intOf]; omega
      · obtain rfl : k = j := by omega
        have HNN : Hid (MayR xs (k + 1)) := HN.out HK.out
        have HB : Hid (Below w.heap.size w wr) := hbW.trans (hbk.mono hbW.size)
        go_wp2_with fail
        go_roundw
        case rel => exact ⟨k + 1, by omega, by go_num, HNN.out, HB.out⟩
        case measure => simp [intOf]; omega
end Go.Proofs.Ytjaaabliefcgaaa
/- One put behind all that it is not ahead of, by its place; appends to a list of the call's own, of which others are not. -/
namespace Go.Proofs.Ytjaaabliefcgaaa
open Go.RowKit Go.Maps Go.Shelf

theorem insA_at (a : Ap) (L : List Ap) : ∀ (k : Nat), srtd (keysA L) → k ≤ L.length → (∀ t, k ≤ t → t < L.length → ahd a.key (atA L t).key = true) → (k = 0 ∨ ∃ m, k = m + 1 ∧ ahd a.key (atA L m).key = false) → insA a L = L.take k ++ a :: L.drop k := by
  induction L with
  | nil =>
    intro k _ hk _ _
    have h0 : k = 0 := by simpa using hk
    rw [h0]
    rfl
  | cons y ys ih =>
    intro k hs hk hall hlow
    unfold keysA at hs
    rw [List.map_cons] at hs
    unfold srtd at hs
    rw [List.pairwise_cons] at hs
    unfold insA
    cases k with
    | zero =>
      have h0 : ahd a.key y.key = true := hall 0 (Nat.le_refl _) (by simp)
      rw [if_pos h0]
      rfl
    | succ m =>
      obtain ⟨m', hm', hf⟩ : ∃ m', m + 1 = m' + 1 ∧ ahd a.key (atA (y :: ys) m').key = false := by
        rcases hlow with h | h
        · exact absurd h (by omega)
        · exact h
      obtain rfl : m = m' := by omega
      simp only [List.length_cons] at hk
      have hy : ahd a.key y.key = false := by
        cases c : ahd a.key y.key
        · rfl
        · exfalso
          have hle : ile y.key (atA (y :: ys) m).key := by
            cases m with
            | zero => exact ile_refl _
            | succ q => exact hs.1 _ (List.mem_map_of_mem (atA_mem (xs := ys) (k := q) (by omega)))
          rw [ile_iff] at hle
          rw [ahd_iff] at c
          rw [ahd_not] at hf
          omega
      rw [if_neg (by rw [hy]; decide)]
      show y :: insA a ys = y :: (ys.take m ++ a :: ys.drop m)
      rw [ih m hs.2 (by omega) (fun t h1 h2 => hall (t + 1) (by omega) (by simp; omega)) ?_]
      cases m with
      | zero => exact .inl rfl
      | succ q => exact .inr ⟨q, rfl, hf⟩
theorem insA_len (a : Ap) (L : List Ap) : (insA a L).length = L.length + 1 := (insA_perm a L).length_eq
theorem ordA_next {xs : List Ap} {j : Nat} (h : j < xs.length) : ordA (xs.take (j + 1)) = insA (atA xs j) (ordA (xs.take j)) := by
  rw [takeA_next h, ordA_app]
/-- One put in at k, cell by cell. -/
theorem catA_ins (a : Ap) (L : List Ap) {k : Nat} (hk : k ≤ L.length) (i : Nat) (hi : i < L.length + 1) : catR (k + 1) (catR k (atA L) (fun _ => a)) (fun t => atA L (k + t)) i = atA (L.take k ++ a :: L.drop k) i := by
  have hl : (L.take k).length = k := by rw [List.length_take]; omega
  by_cases c : i < k
  · rw [catR_left (by omega), catR_left c]
    refine (atA_of ?_).symm
    rw [List.getElem?_append_left (by omega), List.getElem?_take, if_pos c]
    exact atA_get (by omega)
  · by_cases d : i = k
    · subst d
      rw [catR_left (by omega), catR_right (Nat.le_refl _)]
      refine (atA_of ?_).symm
      rw [List.getElem?_append_right (by omega), hl, Nat.sub_self]
      rfl
    · rw [catR_right (by omega)]
      refine (atA_of ?_).symm
      rw [List.getElem?_append_right (by omega), hl, show i - k = (i - (k + 1)) + 1 by omega, List.getElem?_cons_succ, List.getElem?_drop]
      exact atA_get (by omega)
theorem OwnA.R {w : World} {base : Nat} {v : Value} {xs : List Ap} (h : OwnA w base v xs) : OwnR recA w base 30 v xs.length (atA xs) := by
  unfold OwnA at h
  rwa [flatA_R] at h
theorem OwnA.ofR {w : World} {base : Nat} {v : Value} {xs : List Ap} (h : OwnR recA w base 30 v xs.length (atA xs)) : OwnA w base v xs := by
  unfold OwnA
  rw [flatA_R]
  exact h
theorem OwnA.ins {w : World} {base k n : Nat} {v : Value} {a : Ap} {L : List Ap} (hk : k ≤ L.length) (hn : n = L.length + 1) (h : OwnR recA w base 30 v n (catR (k + 1) (catR k (atA L) (fun _ => a)) (fun t => atA L (k + t)))) : OwnA w base v (L.take k ++ a :: L.drop k) := by
  have e : (L.take k ++ a :: L.drop k).length = L.length + 1 := by
    rw [List.length_append, List.length_cons, List.length_take, List.length_drop]; omega
  subst hn
  refine OwnA.ofR ?_
  rw [e]
  exact h.congr (fun i hi => catA_ins a L hk i hi)
theorem own_front {w : World} {base g n cap t size : Nat} {e : TypeId} {xs : List Value} (h : w.ownsRow base e size (.slice (some ⟨g, 0, none⟩) n cap) n xs) (ht : t ≤ n) : w.ownsRow base e size (.slice (some ⟨g, 0, none⟩) t cap) t (xs.take (t * size)) := by
  obtain ⟨h0, h1 | ⟨g', cap', cur, h2, h3, h4, h5, h6, h7, h8⟩⟩ := h
  · simp at h1
  · simp only [Value.slice.injEq, Option.some.injEq, Addr.mk.injEq, and_true, true_and] at h2
    obtain ⟨rfl, rfl⟩ := h2
    have hm : t * size ≤ n * size := Nat.mul_le_mul_right _ ht
    refine ⟨by rw [List.length_take]; omega, .inr ⟨g, cap, cur, rfl, h3, h4, by omega, h6, h7, ?_⟩⟩
    rw [← h8, List.take_take, Nat.min_eq_left hm]
theorem flatR_take {α : Type} {R : Rec α} (n t : Nat) (f : Nat → α) (h : t ≤ n) : (flatR R n f).take (t * R.K) = flatR R t f := by
  obtain ⟨d, rfl⟩ := Nat.exists_eq_add_of_le h
  induction d with
  | zero => rw [Nat.add_zero, ← flatR_len (R := R) t f, List.take_length]
  | succ d ih =>
    rw [← Nat.add_assoc, flatR_succ, List.take_append_of_le_length]
    · exact ih (by omega)
    · rw [flatR_len]; exact Nat.mul_le_mul_right _ (by omega)
theorem OwnR.front {α : Type} {R : Rec α} {w : World} {base g n cap t : Nat} {e : TypeId} {f : Nat → α} (h : OwnR R w base e (.slice (some ⟨g, 0, none⟩) n cap) n f) (ht : t ≤ n) : OwnR R w base e (.slice (some ⟨g, 0, none⟩) t cap) t f := by
  unfold OwnR at h ⊢
  have := own_front h ht
  rwa [flatR_take n t f ht] at this
theorem OwnR.kept {α : Type} {R : Rec α} {w w' : World} {base n : Nat} {e : TypeId} {v : Value} {f : Nat → α} {row : Option Nat} (h : OwnR R w base e v n f) (hg : w.grownBy w' row) (hr : ∀ k, row = some k → k < base) : OwnR R w' base e v n f := by
  unfold OwnR at h ⊢
  refine h.kept hg ?_
  cases c : v.ownBlock with
  | none => exact .inl rfl
  | some k =>
    refine .inr (fun e => ?_)
    have := (h.lt k c).1
    have := hr k e.symm
    omega
theorem wp_append_rwsG {α : Type} {R : Rec α} {P : Program} {w : World} {o : Oper} {act : Act} {K : Act → World → Prop} {Q : Exit → Act → World → Prop} {T E : TypeId} {z : Value} {by' : Nat} (hT : P.underlying T = some (.slice E)) (hI : (P.info? E).map (fun i => (i.zero, i.size, i.bytes)) = some (some z, R.K, by')) (hz : z.cells.size = R.K) (hby : by' ≤ 1000000000) (s x : Operand)
    (ho : o.op = .call { callee := .builtin .append, args := #[s, x], argTypes := #[T, T] }) (base : Nat) (v u : Value) (n m : Nat) (f g : Nat → α)
    (hs : act.eval s = v) (hown : OwnR R w base E v n f) (hx : act.eval x = u) (hr : Rws R w u m g) (hn : n + m ≤ 100000) (hbase : base ≤ w.heap.size)
    (h : ∀ v' w', OwnR R w' base E v' (n + m) (catR n f g) → w.grownBy w' v.ownBlock → (v'.ownBlock = v.ownBlock ∨ v'.ownBlock = some w.heap.size) → K (act.put o.dst v') w') : Oper.wp P o act w K Q := by
  obtain ⟨i0, hi, hz0, hz1, hz2⟩ := info_parts hI
  unfold OwnR at hown
  have hlow := hown.lt
  obtain ⟨a, cap, rfl, h1, h2, h0, h3⟩ := hr
  have m1 : n + m ≤ maxLen := by unfold maxLen; omega
  have hbt : (n + m) * by' ≤ 140737488355328 := by
    have : (n + m) * by' ≤ 100000 * 1000000000 := Nat.mul_le_mul hn hby
    omega
  cases a with
  | none =>
    obtain rfl := h0 rfl
    obtain rfl : m = 0 := by omega
    have hr := run_append_owned_none (P := P) (w := w) base T o.type E i0 R.K hT hi v n (flatR R n f) hown
    unfold Oper.wp execOp
    have hx' : act.eval x = .slice none 0 0 := hx
    simp only [ho, resolve, invoke, builtin, Sem.run_bind, Sem.run_pure, Result.andThen_ok, List.map_toArray, List.map_cons, List.map_nil, hs, hx', hr]
    refine h v w ?_ ⟨rfl, rfl, rfl, Nat.le_refl _, fun _ _ _ => rfl⟩ (.inl rfl)
    unfold OwnR
    rw [← flatR_app, show flatR R 0 g = [] from rfl, List.append_nil]
    exact hown
  | some ad =>
    obtain ⟨v', w', hrun, g1, g2, _, g4⟩ := run_append_own_at (P := P) (w := w) base T o.type E i0 z R.K by' hT hi hz0 hz1 hz2 hz R.pos v n (flatR R n f) hown ad m cap (flatR R m g) (by rw [flatR_len]) (fun j q hq => by
      have hj : j < (flatR R m g).length := (List.getElem?_eq_some_iff.1 hq).1
      rw [flatR_len] at hj
      have hp := R.pos
      have hm0 : 0 < m := by
        rcases Nat.eq_zero_or_pos m with rfl | h
        · rw [Nat.zero_mul] at hj; omega
        · exact h
      obtain ⟨b, oo, he, h4⟩ := h3 hm0
      obtain rfl : ad = ⟨b, oo, none⟩ := by simpa using he
      rw [flatR_get m g j hj] at hq
      rw [← hq, Go.WideShapes.add_plain]
      have := h4 (j / R.K) ((Nat.div_lt_iff_lt_mul hp).2 hj) (j % R.K) (Nat.mod_lt _ hp)
      rwa [Nat.add_assoc, show j / R.K * R.K + j % R.K = j by rw [Nat.mul_comm, Nat.div_add_mod]] at this) (flatR_one _ _) m1 hbt hbase
    unfold Oper.wp execOp
    simp only [ho, resolve, invoke, builtin, Sem.run_bind, Sem.run_pure, Result.andThen_ok, List.map_toArray, List.map_cons, List.map_nil, hs, hx, hrun]
    rw [flatR_app] at g1
    exact h v' w' g1 g2 g4
theorem step_append_rwsG {α : Type} {R : Rec α} {P : Program} {w : World} {ops : Array Oper} {o : Oper} {act : Act} {K : Act → World → Prop} {Q : Exit → Act → World → Prop} {X : Prop} {T E : TypeId} {z : Value} {by' : Nat} (hT : P.underlying T = some (.slice E)) (hI : (P.info? E).map (fun i => (i.zero, i.size, i.bytes)) = some (some z, R.K, by')) (hz : z.cells.size = R.K) (hby : by' ≤ 1000000000) (hgd : o.guard = Option.none) (s x : Operand)
    (ho : o.op = .call { callee := .builtin .append, args := #[s, x], argTypes := #[T, T] }) (base : Nat) (v u : Value) (n m : Nat) (f g : Nat → α)
    (hs : act.eval s = v) (hown : OwnR R w base E v n f) (hx : act.eval x = u) (hr : Rws R w u m g) (hn : n + m ≤ 100000) (hbase : base ≤ w.heap.size)
    (h : ∀ v' w', OwnR R w' base E v' (n + m) (catR n f g) → w.grownBy w' v.ownBlock → (v'.ownBlock = v.ownBlock ∨ v'.ownBlock = some w.heap.size) → K (act.put o.dst v') w') :
    if Region.wanted o (yielded ops act.tmps) = true then Oper.wp P o act w K Q else X := by
  have hw : Region.wanted o (yielded ops act.tmps) = true := by simp [Region.wanted, hgd]
  rw [if_pos hw]
  exact wp_append_rwsG hT hI hz hby s x ho base v u n m f g hs hown hx hr hn hbase h
end Go.Proofs.Ytjaaabliefcgaaa
/- The document's own order: walk of ordered. -/
namespace Go.Proofs.Ytjaaabliefcgaaa
open Go.RowKit Go.Maps Go.Shelf

/-- The cells of one that is read, in a list. -/
def Bx5o (w : World) (b o : Nat) (i d c v r : Int) : Prop := w.cell? ⟨b, o, none⟩ = some (.int .i64 i) ∧ w.cell? ⟨b, o + 1, none⟩ = some (.int .i64 d) ∧ w.cell? ⟨b, o + 2, none⟩ = some (.int .i64 c) ∧ w.cell? ⟨b, o + 3, none⟩ = some (.int .i64 v) ∧ w.cell? ⟨b, o + 4, none⟩ = some (.int .i64 r)
theorem Bx5o.later {w w' : World} {b o : Nat} {i d c v r : Int} (h : Bx5o w b o i d c v r) (hb : Below w.heap.size w w') : Bx5o w' b o i d c v r :=
  ⟨cell_later hb h.1, cell_later hb h.2.1, cell_later hb h.2.2.1, cell_later hb h.2.2.2.1, cell_later hb h.2.2.2.2⟩
def OrdE (xs : List Ap) (w : World) (e : Ending) (w' : World) : Prop := ∃ u, e = .returned u ∧ OwnA w' w.heap.size u (ordA xs) ∧ Below w.heap.size w w'
set_option maxHeartbeats 4000000 in
set_option maxRecDepth 100000 in
theorem ordered_any (xs : List Ap) (v : Value) (w : World) (h : Aps w v xs) (hx : xs.length ≤ 10) :
    Calls Try.prog 27 #[v] w (OrdE xs w) := by
  obtain ⟨ad, cap0, rfl, h1, h2, h0, h5⟩ := h.open
  clear h
  go_enter Try.func27, Try.ntmps27
  go_wp2_with fail
  go_loopw [3, 4] (fun a i wr => ∃ (j : Nat) (av : Value), av = a ∧ j ≤ xs.length ∧ i = .int .i64 j ∧ Hid (OwnA wr w.heap.size av (ordA (xs.take j))) ∧ Below w.heap.size w wr) (fun _ i _ => ((xs.length : Int) - intOf i).toNat)
  case atStart => exact ⟨0, _, rfl, by omega, rfl, OwnA.nil _ _, Below.refl _ _⟩
  case round =>
    generalize wr = W1 at *
    obtain ⟨j, ov, rfl, hj, rfl, HO, hbw⟩ := hrel
    by_cases hjl : (j : Int) < xs.length
    rotate_left
    · obtain rfl : j = xs.length := by omega
      have HE : Hid (OwnA W1 w.heap.size ov (ordA xs)) := by
        have := HO.out
        rw [List.take_length] at this
        exact this
      clear HO
      go_wp2_with fail
      go_ret
      exact ⟨_, rfl, HE.out, hbw⟩
    obtain ⟨bk, o, rfl, h6⟩ := h5 (by omega)
    obtain ⟨k0, k1, k2, k3, k4⟩ := h6 j (by omega)
    have c0 := cell_later hbw k0
    have c1 := cell_later hbw k1
    have c2 := cell_later hbw k2
    have c3 := cell_later hbw k3
    have c4 := cell_later hbw k4
    have sbk : bk < w.heap.size := World.block_lt_of_cell? _ _ k0
    have hlo : (ordA (xs.take j)).length = j := by rw [ordA_len, List.length_take]; omega
    have HS : Hid (srtd (keysA (ordA (xs.take j)))) := ordA_srtd _
    have HX : Hid (ordA (xs.take (j + 1)) = insA (atA xs j) (ordA (xs.take j))) := ordA_next (by omega)
    clear h5 h6
    generalize atA xs j = a at *
    obtain ⟨ii, dd, cc, vv, rr⟩ := a
    simp only at c0 c1 c2 c3 c4 k0 k1 k2 k3 k4
    generalize ordA (xs.take j) = L at *
    have HCW : Hid (Bx5o w bk (o + j * 5) ii dd cc vv rr) := ⟨k0, k1, k2, k3, k4⟩
    have HC : Hid (Bx5o W1 bk (o + j * 5) ii dd cc vv rr) := ⟨c0, c1, c2, c3, c4⟩
    have HB1 : Hid (Below w.heap.size w W1) := hbw
    clear c0 c1 c2 c3 c4 hbw k0 k1 k2 k3 k4
    rcases HO.out.R.open with ⟨rfl, hz⟩ | ⟨g, cap, rfl, g1, g2, g3, g4⟩
    · obtain rfl : j = 0 := by omega
      go_wp2_with fail
      go_loopw [5] (fun i wr => i = .int .i64 0 ∧ Below W1.heap.size W1 wr) (fun _ _ => 0)
      case atStart => exact ⟨rfl, Below.refl _ _⟩
      case round =>
        obtain ⟨rfl, hbk⟩ := hrel
        have HI : Hid (insA ⟨ii, dd, cc, vv, rr⟩ L = L.take 0 ++ ⟨ii, dd, cc, vv, rr⟩ :: L.drop 0) := insA_at _ _ _ HS.out (by omega) (fun t _ h => by omega) (.inl rfl)
        go_wp2_with fail
        go_quiet (fail)
        have HBK : Hid (Below W1.heap.size W1 (wr.drewN nq)) := ⟨hbk.os, hbk.tape, hbk.output, hbk.size, hbk.block⟩
        clear hbk
        generalize wr.drewN nq = W2 at *
        have HB2 : Hid (Below w.heap.size w W2) := HB1.out.trans (HBK.out.mono HB1.out.size)
        have HO2 : Hid (OwnR recA W2 w.heap.size 30 (.slice none 0 0) 0 (atA L)) := OwnR.nil _ _ _ _ _
        have HT : Hid (Rws recA W2 (.slice none 0 0) 0 (fun t => atA L t)) := Rws.nil _ _ _
        clear HBK HO HB1 HS
        go_wp2_with (first | (at_builtin; refine append_rws (R := recA) Try.underlying22 Try.infoApe rfl (by omega) rfl _ _ rfl W2.heap.size (.slice none 0 0) _ 0 0 (fun _ => apZ) (fun t => atA L t) rfl (OwnR.nil _ _ _ _ _) rfl (by go_simp; exact HT.out) (by omega) (Nat.le_refl _) ?_; intro rv w6 ho6 hb6))
        have HR6 : Hid (OwnR recA w6 W2.heap.size 30 rv 0 (fun t => atA L t)) := ho6.same
        have HO6 : Hid (OwnR recA w6 w.heap.size 30 (.slice none 0 0) 0 (atA L)) := HO2.out.later hb6
        have HB6 : Hid (Below w.heap.size w w6) := HB2.out.trans (hb6.mono HB2.out.size)
        have s26 := hb6.size
        clear HT HO2 HB2 ho6 hb6
        refine wp_region_held_drew (S := (fun w' : World => w'.cell? ⟨bk, o, none⟩ = some (.int .i64 ii) ∧ w'.cell? ⟨bk, o + 1, none⟩ = some (.int .i64 dd) ∧ w'.cell? ⟨bk, o + 2, none⟩ = some (.int .i64 cc) ∧ w'.cell? ⟨bk, o + 3, none⟩ = some (.int .i64 vv) ∧ w'.cell? ⟨bk, o + 4, none⟩ = some (.int .i64 rr))) (by kernel_rfl) ?_ (fun hHeld => ?_)
        · exact HCW.out.later HB6.out.drew
        refine wpAnyH_take (i := 0) (oi := { dst := some 65, op := Op.move (Operand.tmp 3), type := 22, pos := _, after := _, guard := none }) (v := ?_) rfl (by kernel_rfl) (by kernel_rfl) (by kernel_rfl) (fun _ _ _ h => h) (Or.inl ⟨by rfl, ?_⟩) (by assumption) ?_
        rotate_left
        · intro wS hSw; (try dsimp only at hSw); go_simp; first | done | with_reducible rfl
        try simp only [Act.put, List.setIfInBounds_toArray, List.set_cons_zero, List.set_cons_succ]
        refine wpAnyH_take (i := 1) (oi := { dst := some 66, op := Op.move (Operand.tmp 5), type := 3, pos := _, after := _, guard := none }) (v := ?_) rfl (by kernel_rfl) (by kernel_rfl) (by kernel_rfl) (fun _ _ _ h => h) (Or.inl ⟨by rfl, ?_⟩) (by assumption) ?_
        rotate_left
        · intro wS hSw; (try dsimp only at hSw); go_simp; first | done | with_reducible rfl
        try simp only [Act.put, List.setIfInBounds_toArray, List.set_cons_zero, List.set_cons_succ]
        refine wpAnyH_take (i := 2) (oi := { dst := some 67, op := Op.slice 22 (Operand.tmp 65) none (some (Operand.tmp 66)) none, type := 22, pos := _, after := _, guard := none }) (v := ?_) rfl (by kernel_rfl) (by kernel_rfl) (by kernel_rfl) (fun _ _ _ h => h) (Or.inl ⟨by rfl, ?_⟩) (by assumption) ?_
        rotate_left
        · intro wS hSw; (try dsimp only at hSw); go_simp; first | done | with_reducible rfl
        try simp only [Act.put, List.setIfInBounds_toArray, List.set_cons_zero, List.set_cons_succ]
        refine wpAnyH_take (i := 3) (oi := { dst := some 68, op := Op.move (Operand.tmp 0), type := 22, pos := _, after := _, guard := none }) (v := ?_) rfl (by kernel_rfl) (by kernel_rfl) (by kernel_rfl) (fun _ _ _ h => h) (Or.inl ⟨by rfl, ?_⟩) (by assumption) ?_
        rotate_left
        · intro wS hSw; (try dsimp only at hSw); go_simp; first | done | with_reducible rfl
        try simp only [Act.put, List.setIfInBounds_toArray, List.set_cons_zero, List.set_cons_succ]
        refine wpAnyH_take (i := 4) (oi := { dst := some 69, op := Op.move (Operand.tmp 4), type := 3, pos := _, after := _, guard := none }) (v := ?_) rfl (by kernel_rfl) (by kernel_rfl) (by kernel_rfl) (fun _ _ _ h => h) (Or.inl ⟨by rfl, ?_⟩) (by assumption) ?_
        rotate_left
        · intro wS hSw; (try dsimp only at hSw); go_simp; first | done | with_reducible rfl
        try simp only [Act.put, List.setIfInBounds_toArray, List.set_cons_zero, List.set_cons_succ]
        refine wpAnyH_take (i := 5) (oi := { dst := some 70, op := Op.indexAddr 22 (Operand.tmp 68) (Operand.tmp 69), type := 0, pos := _, after := _, guard := none }) (v := ?_) rfl (by kernel_rfl) (by kernel_rfl) (by kernel_rfl) (fun _ _ _ h => h) (Or.inl ⟨by rfl, ?_⟩) (by assumption) ?_
        rotate_left
        · intro wS hSw; (try dsimp only at hSw); go_simp; first | done | with_reducible rfl
        try simp only [Act.put, List.setIfInBounds_toArray, List.set_cons_zero, List.set_cons_succ]
        refine wpAnyH_take (i := 6) (oi := { dst := some 71, op := Op.load 30 (Operand.tmp 70), type := 30, pos := _, after := _, guard := none }) (v := ?_) rfl (by kernel_rfl) (by kernel_rfl) (by kernel_rfl) (fun _ _ _ h => h) (Or.inl ⟨by rfl, ?_⟩) (by assumption) ?_
        rotate_left
        · intro wS hSw; (try dsimp only at hSw); go_simp; first | done | with_reducible rfl
        try simp only [Act.put, List.setIfInBounds_toArray, List.set_cons_zero, List.set_cons_succ]
        have hB7 : Below w.heap.size w (w6.alloc (.cells #[.int .i64 ii, .int .i64 dd, .int .i64 cc, .int .i64 vv, .int .i64 rr] 30)).drew := (HB6.out.alloc HB6.out.size _).drew
        have ho7 : OwnR recA (w6.alloc (.cells #[.int .i64 ii, .int .i64 dd, .int .i64 cc, .int .i64 vv, .int .i64 rr] 30)).drew w.heap.size 30 (.slice none 0 0) 0 (atA L) := HO6.out.later (((Below.refl _ _).alloc (Nat.le_refl _) _).drew)
        have hr7 : OwnR recA (w6.alloc (.cells #[.int .i64 ii, .int .i64 dd, .int .i64 cc, .int .i64 vv, .int .i64 rr] 30)).drew W2.heap.size 30 rv 0 (fun t => atA L t) := HR6.out.later (((Below.refl _ _).alloc (Nat.le_refl _) _).drew)
        have hone : Rws recA (w6.alloc (.cells #[.int .i64 ii, .int .i64 dd, .int .i64 cc, .int .i64 vv, .int .i64 rr] 30)).drew (.slice (some ⟨w6.heap.size, 0, none⟩) 1 1) 1 (fun _ => (⟨ii, dd, cc, vv, rr⟩ : Ap)) := Rws.congr (Rws.later (Aps.one w6 ii dd cc vv rr) (Below.refl _ _).drew) (fun i hi => by obtain rfl : i = 0 := (by omega); rfl)
        refine wpAnyH_ready (rs := [7]) (by kernel_rfl) (by simp) ?_
        refine AllReadyH.cons (o := { dst := some 72, op := Op.buildSlice 22 1 #[(0, Operand.tmp 71)], type := 22, pos := _, after := _, guard := none }) rfl (fun K hK => ?_) AllReadyH.nil
        go_simp
        refine hK.out _ _ ?_ (fun hHeld => ?_)
        · exact HCW.out.later hB7
        clear hK K
        try simp only [Act.put, List.setIfInBounds_toArray, List.set_cons_zero, List.set_cons_succ]
        refine wpAnyH_ready (rs := [8]) (by kernel_rfl) (by simp) ?_
        refine AllReadyH.cons (o := { dst := some 73, op := Op.call { callee := Callee.builtin Builtin.append, args := #[Operand.tmp 67, Operand.tmp 72], argTypes := #[22, 22] }, type := 22, pos := _, after := _, guard := none }) rfl (fun K hK => ?_) AllReadyH.nil
        refine step_append_rwsG (R := recA) Try.underlying22 Try.infoApe rfl (by omega) rfl _ _ rfl w.heap.size (.slice none 0 0) _ 0 1 (atA L) (fun _ => (⟨ii, dd, cc, vv, rr⟩ : Ap)) (by go_simp) ho7 rfl hone (by omega) hB7.size ?_
        intro v8 w8 ho8 hg8 _
        have HB8 : Hid (Below w.heap.size w w8) := hB7.grown hg8 hB7.size (fun k hk => by simp [Value.ownBlock] at hk)
        have HR8 : Hid (OwnR recA w8 W2.heap.size 30 rv 0 (fun t => atA L t)) := OwnR.kept hr7 hg8 (fun k hk => by simp [Value.ownBlock] at hk)
        have HO8 : Hid (OwnR recA w8 w.heap.size 30 v8 (0 + 1) (catR 0 (atA L) (fun _ => (⟨ii, dd, cc, vv, rr⟩ : Ap)))) := ho8
        refine hK.out _ _ ?_ (fun hHeld => ?_)
        · exact HCW.out.later HB8.out
        clear hK K
        try simp only [Act.put, List.setIfInBounds_toArray, List.set_cons_zero, List.set_cons_succ]
        refine wpAnyH_take (i := 9) (oi := { dst := some 3, op := Op.assign (Operand.tmp 73), type := 22, pos := _, after := _, guard := none }) (v := ?_) rfl (by kernel_rfl) (by kernel_rfl) (by kernel_rfl) (fun _ _ _ h => h) (Or.inl ⟨by rfl, ?_⟩) (by assumption) ?_
        rotate_left
        · intro wS hSw; (try dsimp only at hSw); go_simp; first | done | with_reducible rfl
        try simp only [Act.put, List.setIfInBounds_toArray, List.set_cons_zero, List.set_cons_succ]
        refine wpAnyH_done (by kernel_rfl) ?_ _
        clear hone hr7 ho7 hB7 ho8 hg8 HR6 HO6 HB6
        go_wp2_with (first | (at_builtin; refine append_rws (R := recA) Try.underlying22 Try.infoApe rfl (by omega) rfl _ _ rfl w.heap.size v8 rv (0 + 1) 0 (catR 0 (atA L) (fun _ => (⟨ii, dd, cc, vv, rr⟩ : Ap))) (fun t => atA L t) rfl HO8.out rfl (by go_simp; exact HR8.out.rws) (by omega) HB8.out.size ?_; intro v9 w9 ho9 hb9))
        have HN : Hid (OwnA w9 w.heap.size v9 (ordA (xs.take (0 + 1)))) := by
          show OwnA _ _ _ _
          rw [HX.out, HI.out]
          exact OwnA.ins (k := 0) (by omega) (by omega) (OwnR.congr ho9 (fun i _ => by simp only [Nat.zero_add]))
        have HB9 : Hid (Below w.heap.size w w9) := HB8.out.trans hb9
        clear HR8 HO8 HB8 ho9 hb9 HX HI
        go_wp2_with fail
        go_roundw
        case rel => exact ⟨0 + 1, _, rfl, by omega, by go_num, HN.out, HB9.out⟩
        case measure => simp [intOf]; omega
    · have HR : Hid (OwnR recA W1 w.heap.size 30 (.slice (some ⟨g, 0, none⟩) j cap) j (atA L)) := by
        have h := HO.out.R
        rw [hlo] at h
        exact h
      rw [hlo] at g3 ⊢
      clear HO
      have hlw : j ≤ 9223372036854775807 := by omega
      go_wp2_with fail
      go_loopw [5] (fun i wr => ∃ (k : Nat), k ≤ j ∧ i = .int .i64 k ∧ Hid (∀ t, k ≤ t → t < j → ahd (dd, ii) (atA L t).key = true) ∧ Below W1.heap.size W1 wr) (fun i _ => (intOf i).toNat)
      case atStart => exact ⟨j, by omega, rfl, fun t h1 h2 => by omega, Below.refl _ _⟩
      case round =>
        obtain ⟨k, hk, rfl, HA, hbk⟩ := hrel
        cases k with
        | zero =>
          have HI : Hid (insA ⟨ii, dd, cc, vv, rr⟩ L = L.take 0 ++ ⟨ii, dd, cc, vv, rr⟩ :: L.drop 0) := insA_at _ _ _ HS.out (by omega) (fun t h1 h2 => HA.out t h1 (by omega)) (.inl rfl)
          go_wp2_with fail
          go_quiet (fail)
          have HBK : Hid (Below W1.heap.size W1 (wr.drewN nq)) := ⟨hbk.os, hbk.tape, hbk.output, hbk.size, hbk.block⟩
          clear hbk
          generalize wr.drewN nq = W2 at *
          have HB2 : Hid (Below w.heap.size w W2) := HB1.out.trans (HBK.out.mono HB1.out.size)
          have HO2 : Hid (OwnR recA W2 w.heap.size 30 (.slice (some ⟨g, 0, none⟩) j cap) j (atA L)) := HR.out.later HBK.out
          have hg2 : g < W2.heap.size := Nat.lt_of_lt_of_le g2 HBK.out.size
          have HT : Hid (Rws recA W2 (.slice (some ⟨g, 0, none⟩) j cap) j (fun t => atA L t)) := (HO2.out.rws)
          clear HBK HR HB1 HS
          go_wp2_with (first | (at_builtin; refine append_rws (R := recA) Try.underlying22 Try.infoApe rfl (by omega) rfl _ _ rfl W2.heap.size (.slice none 0 0) _ 0 j (fun _ => apZ) (fun t => atA L t) rfl (OwnR.nil _ _ _ _ _) rfl (by go_simp; exact HT.out) (by omega) (Nat.le_refl _) ?_; intro rv w6 ho6 hb6))
          have HR6 : Hid (OwnR recA w6 W2.heap.size 30 rv j (fun t => atA L t)) := ho6.same
          have HO6 : Hid (OwnR recA w6 w.heap.size 30 (.slice (some ⟨g, 0, none⟩) j cap) j (atA L)) := HO2.out.later hb6
          have HB6 : Hid (Below w.heap.size w w6) := HB2.out.trans (hb6.mono HB2.out.size)
          have s26 := hb6.size
          clear HT HO2 HB2 ho6 hb6
          refine wp_region_held_drew (S := (fun w' : World => w'.cell? ⟨bk, o + j * 5, none⟩ = some (.int .i64 ii) ∧ w'.cell? ⟨bk, o + j * 5 + 1, none⟩ = some (.int .i64 dd) ∧ w'.cell? ⟨bk, o + j * 5 + 2, none⟩ = some (.int .i64 cc) ∧ w'.cell? ⟨bk, o + j * 5 + 3, none⟩ = some (.int .i64 vv) ∧ w'.cell? ⟨bk, o + j * 5 + 4, none⟩ = some (.int .i64 rr))) (by kernel_rfl) ?_ (fun hHeld => ?_)
          · exact HCW.out.later HB6.out.drew
          refine wpAnyH_take (i := 0) (oi := { dst := some 65, op := Op.move (Operand.tmp 3), type := 22, pos := _, after := _, guard := none }) (v := ?_) rfl (by kernel_rfl) (by kernel_rfl) (by kernel_rfl) (fun _ _ _ h => h) (Or.inl ⟨by rfl, ?_⟩) (by assumption) ?_
          rotate_left
          · intro wS hSw; (try dsimp only at hSw); go_simp; first | done | with_reducible rfl
          try simp only [Act.put, List.setIfInBounds_toArray, List.set_cons_zero, List.set_cons_succ]
          refine wpAnyH_take (i := 1) (oi := { dst := some 66, op := Op.move (Operand.tmp 5), type := 3, pos := _, after := _, guard := none }) (v := ?_) rfl (by kernel_rfl) (by kernel_rfl) (by kernel_rfl) (fun _ _ _ h => h) (Or.inl ⟨by rfl, ?_⟩) (by assumption) ?_
          rotate_left
          · intro wS hSw; (try dsimp only at hSw); go_simp; first | done | with_reducible rfl
          try simp only [Act.put, List.setIfInBounds_toArray, List.set_cons_zero, List.set_cons_succ]
          refine wpAnyH_take (i := 2) (oi := { dst := some 67, op := Op.slice 22 (Operand.tmp 65) none (some (Operand.tmp 66)) none, type := 22, pos := _, after := _, guard := none }) (v := ?_) rfl (by kernel_rfl) (by kernel_rfl) (by kernel_rfl) (fun _ _ _ h => h) (Or.inl ⟨by rfl, ?_⟩) (by assumption) ?_
          rotate_left
          · intro wS hSw; (try dsimp only at hSw); go_simp; first | done | with_reducible rfl
          try simp only [Act.put, List.setIfInBounds_toArray, List.set_cons_zero, List.set_cons_succ]
          refine wpAnyH_take (i := 3) (oi := { dst := some 68, op := Op.move (Operand.tmp 0), type := 22, pos := _, after := _, guard := none }) (v := ?_) rfl (by kernel_rfl) (by kernel_rfl) (by kernel_rfl) (fun _ _ _ h => h) (Or.inl ⟨by rfl, ?_⟩) (by assumption) ?_
          rotate_left
          · intro wS hSw; (try dsimp only at hSw); go_simp; first | done | with_reducible rfl
          try simp only [Act.put, List.setIfInBounds_toArray, List.set_cons_zero, List.set_cons_succ]
          refine wpAnyH_take (i := 4) (oi := { dst := some 69, op := Op.move (Operand.tmp 4), type := 3, pos := _, after := _, guard := none }) (v := ?_) rfl (by kernel_rfl) (by kernel_rfl) (by kernel_rfl) (fun _ _ _ h => h) (Or.inl ⟨by rfl, ?_⟩) (by assumption) ?_
          rotate_left
          · intro wS hSw; (try dsimp only at hSw); go_simp; first | done | with_reducible rfl
          try simp only [Act.put, List.setIfInBounds_toArray, List.set_cons_zero, List.set_cons_succ]
          refine wpAnyH_take (i := 5) (oi := { dst := some 70, op := Op.indexAddr 22 (Operand.tmp 68) (Operand.tmp 69), type := 0, pos := _, after := _, guard := none }) (v := ?_) rfl (by kernel_rfl) (by kernel_rfl) (by kernel_rfl) (fun _ _ _ h => h) (Or.inl ⟨by rfl, ?_⟩) (by assumption) ?_
          rotate_left
          · intro wS hSw; (try dsimp only at hSw); go_simp; first | done | with_reducible rfl
          try simp only [Act.put, List.setIfInBounds_toArray, List.set_cons_zero, List.set_cons_succ]
          refine wpAnyH_take (i := 6) (oi := { dst := some 71, op := Op.load 30 (Operand.tmp 70), type := 30, pos := _, after := _, guard := none }) (v := ?_) rfl (by kernel_rfl) (by kernel_rfl) (by kernel_rfl) (fun _ _ _ h => h) (Or.inl ⟨by rfl, ?_⟩) (by assumption) ?_
          rotate_left
          · intro wS hSw; (try dsimp only at hSw); go_simp; first | done | with_reducible rfl
          try simp only [Act.put, List.setIfInBounds_toArray, List.set_cons_zero, List.set_cons_succ]
          have hB7 : Below w.heap.size w (w6.alloc (.cells #[.int .i64 ii, .int .i64 dd, .int .i64 cc, .int .i64 vv, .int .i64 rr] 30)).drew := (HB6.out.alloc HB6.out.size _).drew
          have ho7 : OwnR recA (w6.alloc (.cells #[.int .i64 ii, .int .i64 dd, .int .i64 cc, .int .i64 vv, .int .i64 rr] 30)).drew w.heap.size 30 (.slice (some ⟨g, 0, none⟩) j cap) j (atA L) := HO6.out.later (((Below.refl _ _).alloc (Nat.le_refl _) _).drew)
          have hr7 : OwnR recA (w6.alloc (.cells #[.int .i64 ii, .int .i64 dd, .int .i64 cc, .int .i64 vv, .int .i64 rr] 30)).drew W2.heap.size 30 rv j (fun t => atA L t) := HR6.out.later (((Below.refl _ _).alloc (Nat.le_refl _) _).drew)
          have hone : Rws recA (w6.alloc (.cells #[.int .i64 ii, .int .i64 dd, .int .i64 cc, .int .i64 vv, .int .i64 rr] 30)).drew (.slice (some ⟨w6.heap.size, 0, none⟩) 1 1) 1 (fun _ => (⟨ii, dd, cc, vv, rr⟩ : Ap)) := Rws.congr (Rws.later (Aps.one w6 ii dd cc vv rr) (Below.refl _ _).drew) (fun i hi => by obtain rfl : i = 0 := (by omega); rfl)
          refine wpAnyH_ready (rs := [7]) (by kernel_rfl) (by simp) ?_
          refine AllReadyH.cons (o := { dst := some 72, op := Op.buildSlice 22 1 #[(0, Operand.tmp 71)], type := 22, pos := _, after := _, guard := none }) rfl (fun K hK => ?_) AllReadyH.nil
          go_simp
          refine hK.out _ _ ?_ (fun hHeld => ?_)
          · exact HCW.out.later hB7
          clear hK K
          try simp only [Act.put, List.setIfInBounds_toArray, List.set_cons_zero, List.set_cons_succ]
          refine wpAnyH_ready (rs := [8]) (by kernel_rfl) (by simp) ?_
          refine AllReadyH.cons (o := { dst := some 73, op := Op.call { callee := Callee.builtin Builtin.append, args := #[Operand.tmp 67, Operand.tmp 72], argTypes := #[22, 22] }, type := 22, pos := _, after := _, guard := none }) rfl (fun K hK => ?_) AllReadyH.nil
          refine step_append_rwsG (R := recA) Try.underlying22 Try.infoApe rfl (by omega) rfl _ _ rfl w.heap.size (.slice (some ⟨g, 0, none⟩) 0 cap) _ 0 1 (atA L) (fun _ => (⟨ii, dd, cc, vv, rr⟩ : Ap)) (by go_simp) (OwnR.front (t := 0) ho7 (by omega)) rfl hone (by omega) hB7.size ?_
          intro v8 w8 ho8 hg8 _
          have HB8 : Hid (Below w.heap.size w w8) := hB7.grown hg8 hB7.size (fun k hk => by simp [Value.ownBlock] at hk; omega)
          have HR8 : Hid (OwnR recA w8 W2.heap.size 30 rv j (fun t => atA L t)) := OwnR.kept hr7 hg8 (fun k hk => by simp [Value.ownBlock] at hk; omega)
          have HO8 : Hid (OwnR recA w8 w.heap.size 30 v8 (0 + 1) (catR 0 (atA L) (fun _ => (⟨ii, dd, cc, vv, rr⟩ : Ap)))) := ho8
          refine hK.out _ _ ?_ (fun hHeld => ?_)
          · exact HCW.out.later HB8.out
          clear hK K
          try simp only [Act.put, List.setIfInBounds_toArray, List.set_cons_zero, List.set_cons_succ]
          refine wpAnyH_take (i := 9) (oi := { dst := some 3, op := Op.assign (Operand.tmp 73), type := 22, pos := _, after := _, guard := none }) (v := ?_) rfl (by kernel_rfl) (by kernel_rfl) (by kernel_rfl) (fun _ _ _ h => h) (Or.inl ⟨by rfl, ?_⟩) (by assumption) ?_
          rotate_left
          · intro wS hSw; (try dsimp only at hSw); go_simp; first | done | with_reducible rfl
          try simp only [Act.put, List.setIfInBounds_toArray, List.set_cons_zero, List.set_cons_succ]
          refine wpAnyH_done (by kernel_rfl) ?_ _
          clear hone hr7 ho7 hB7 ho8 hg8 HR6 HO6 HB6
          go_wp2_with (first | (at_builtin; refine append_rws (R := recA) Try.underlying22 Try.infoApe rfl (by omega) rfl _ _ rfl w.heap.size v8 rv (0 + 1) j (catR 0 (atA L) (fun _ => (⟨ii, dd, cc, vv, rr⟩ : Ap))) (fun t => atA L t) rfl HO8.out rfl (by go_simp; exact HR8.out.rws) (by omega) HB8.out.size ?_; intro v9 w9 ho9 hb9))
          have HN : Hid (OwnA w9 w.heap.size v9 (ordA (xs.take (j + 1)))) := by
            show OwnA _ _ _ _
            rw [HX.out, HI.out]
            exact OwnA.ins (k := 0) (by omega) (by omega) (OwnR.congr ho9 (fun i _ => by simp only [Nat.zero_add]))
          have HB9 : Hid (Below w.heap.size w w9) := HB8.out.trans hb9
          clear HR8 HO8 HB8 ho9 hb9 HX HI
          go_wp2_with fail
          go_roundw
          case rel => exact ⟨j + 1, _, rfl, by omega, by go_num, HN.out, HB9.out⟩
          case measure => simp [intOf]; omega
        | succ m =>
          obtain ⟨y0, y1, y2, y3, y4⟩ := OwnR.at5 (i := m) (HR.out.later hbk) (by omega)
          obtain ⟨x0, x1, x2, x3, x4⟩ := HC.out.later hbk
          have hwm : IntKind.i64.wrap (((m + 1 : Nat) : Int) - 1) = (m : Int) := by rw [show ((m + 1 : Nat) : Int) - 1 = (m : Int) by omega]; exact wrap_near (by omega) (by omega)
          have hgt : (0 : Int) < ((m + 1 : Nat) : Int) := by omega
          have HN : Hid (ahd (dd, ii) (atA L m).key = true → ∀ t, m ≤ t → t < j → ahd (dd, ii) (atA L t).key = true) := fun e t h1 h2 => by
            rcases (show t = m ∨ m + 1 ≤ t by omega) with rfl | h
            · exact e
            · exact HA.out t h h2
          have HI : Hid (ahd (dd, ii) (atA L m).key = false → insA ⟨ii, dd, cc, vv, rr⟩ L = L.take (m + 1) ++ ⟨ii, dd, cc, vv, rr⟩ :: L.drop (m + 1)) := fun e => insA_at _ _ _ HS.out (by omega) (fun t h1 h2 => HA.out t h1 (by omega)) (.inr ⟨m, rfl, e⟩)
          clear HA
          generalize atA L m = b at *
          obtain ⟨i', d', c', v', r'⟩ := b
          simp only at y0 y1 y2 y3 y4
          clear y2 y3 y4 x2 x3 x4
          by_cases q1 : dd < d'
          · have HN2 : Hid (∀ t, m ≤ t → t < j → ahd (dd, ii) (atA L t).key = true) := HN.out (ahd_iff.2 (.inl q1))
            have q1' : decide (dd < d') = true := decide_eq_true q1
            clear HN HI
            go_wp2_with fail
            go_quiet (fail)
            go_wp2_with fail
            go_roundw
            case rel => exact ⟨m, by omega, by go_num, HN2.out, ⟨hbk.os, hbk.tape, hbk.output, hbk.size, hbk.block⟩⟩
            case measure => simp [intOf]
          · have q1' : decide (dd < d') = false := decide_eq_false q1
            by_cases q2 : dd = d'
            · have q2' : (dd == d') = true := by simpa using q2
              by_cases q3 : ii < i'
              · have HN2 : Hid (∀ t, m ≤ t → t < j → ahd (dd, ii) (atA L t).key = true) := HN.out (ahd_iff.2 (.inr ⟨q2, q3⟩))
                have q3' : decide (ii < i') = true := decide_eq_true q3
                clear HN HI q2
                go_wp2_with fail
                go_quiet (fail)
                go_wp2_with fail
                go_roundw
                case rel => exact ⟨m, by omega, by go_num, HN2.out, ⟨hbk.os, hbk.tape, hbk.output, hbk.size, hbk.block⟩⟩
                case measure => simp [intOf]
              · have HI2 := HI.out (ahd_not.2 (.inr ⟨q2.symm, by show i' ≤ ii; omega⟩))
                have HI : Hid (insA ⟨ii, dd, cc, vv, rr⟩ L = L.take (m + 1) ++ ⟨ii, dd, cc, vv, rr⟩ :: L.drop (m + 1)) := HI2
                have q3' : decide (ii < i') = false := decide_eq_false q3
                clear HN HI2 q2
                go_wp2_with fail
                go_quiet (fail)
                clear q1 q1' q2' q3 q3' y0 y1 x0 x1
                have HBK : Hid (Below W1.heap.size W1 (wr.drewN nq)) := ⟨hbk.os, hbk.tape, hbk.output, hbk.size, hbk.block⟩
                clear hbk
                generalize wr.drewN nq = W2 at *
                have HB2 : Hid (Below w.heap.size w W2) := HB1.out.trans (HBK.out.mono HB1.out.size)
                have HO2 : Hid (OwnR recA W2 w.heap.size 30 (.slice (some ⟨g, 0, none⟩) j cap) j (atA L)) := HR.out.later HBK.out
                have hg2 : g < W2.heap.size := Nat.lt_of_lt_of_le g2 HBK.out.size
                have HT : Hid (Rws recA W2 (.slice (if cap = m + 1 then some ⟨g, 0, none⟩ else some ⟨g, (m + 1) * 5, none⟩) (j - (m + 1)) (cap - (m + 1))) (j - (m + 1)) (fun t => atA L ((m + 1) + t))) := by
                  show Rws _ _ _ _ _
                  split
                  · next hc => exact Rws.zero (by omega) (by omega) (by omega)
                  · have h := Rws.tail (R := recA) (t := m + 1) HO2.out.rws (by omega)
                    rw [Nat.zero_add] at h
                    exact h
                have hkc : (m : Int) + 1 ≤ cap := by omega
                have hk0 : (0 : Int) ≤ (m : Int) + 1 := by omega
                clear HBK HR HB1 HS
                go_wp2_with (first | (at_builtin; refine append_rws (R := recA) Try.underlying22 Try.infoApe rfl (by omega) rfl _ _ rfl W2.heap.size (.slice none 0 0) _ 0 (j - (m + 1)) (fun _ => apZ) (fun t => atA L ((m + 1) + t)) rfl (OwnR.nil _ _ _ _ _) rfl (by go_simp; exact HT.out) (by omega) (Nat.le_refl _) ?_; intro rv w6 ho6 hb6))
                · have HR6 : Hid (OwnR recA w6 W2.heap.size 30 rv (j - (m + 1)) (fun t => atA L ((m + 1) + t))) := ho6.same
                  have HO6 : Hid (OwnR recA w6 w.heap.size 30 (.slice (some ⟨g, 0, none⟩) j cap) j (atA L)) := HO2.out.later hb6
                  have HB6 : Hid (Below w.heap.size w w6) := HB2.out.trans (hb6.mono HB2.out.size)
                  have s26 := hb6.size
                  clear HT HO2 HB2 ho6 hb6
                  refine wp_region_held_drew (S := (fun w' : World => w'.cell? ⟨bk, o + j * 5, none⟩ = some (.int .i64 ii) ∧ w'.cell? ⟨bk, o + j * 5 + 1, none⟩ = some (.int .i64 dd) ∧ w'.cell? ⟨bk, o + j * 5 + 2, none⟩ = some (.int .i64 cc) ∧ w'.cell? ⟨bk, o + j * 5 + 3, none⟩ = some (.int .i64 vv) ∧ w'.cell? ⟨bk, o + j * 5 + 4, none⟩ = some (.int .i64 rr))) (by kernel_rfl) ?_ (fun hHeld => ?_)
                  · exact HCW.out.later HB6.out.drew
                  refine wpAnyH_take (i := 0) (oi := { dst := some 65, op := Op.move (Operand.tmp 3), type := 22, pos := _, after := _, guard := none }) (v := ?_) rfl (by kernel_rfl) (by kernel_rfl) (by kernel_rfl) (fun _ _ _ h => h) (Or.inl ⟨by rfl, ?_⟩) (by assumption) ?_
                  rotate_left
                  · intro wS hSw; (try dsimp only at hSw); go_simp; first | done | with_reducible rfl
                  try simp only [Act.put, List.setIfInBounds_toArray, List.set_cons_zero, List.set_cons_succ]
                  refine wpAnyH_take (i := 1) (oi := { dst := some 66, op := Op.move (Operand.tmp 5), type := 3, pos := _, after := _, guard := none }) (v := ?_) rfl (by kernel_rfl) (by kernel_rfl) (by kernel_rfl) (fun _ _ _ h => h) (Or.inl ⟨by rfl, ?_⟩) (by assumption) ?_
                  rotate_left
                  · intro wS hSw; (try dsimp only at hSw); go_simp; first | done | with_reducible rfl
                  try simp only [Act.put, List.setIfInBounds_toArray, List.set_cons_zero, List.set_cons_succ]
                  refine wpAnyH_take (i := 2) (oi := { dst := some 67, op := Op.slice 22 (Operand.tmp 65) none (some (Operand.tmp 66)) none, type := 22, pos := _, after := _, guard := none }) (v := ?_) rfl (by kernel_rfl) (by kernel_rfl) (by kernel_rfl) (fun _ _ _ h => h) (Or.inl ⟨by rfl, ?_⟩) (by assumption) ?_
                  rotate_left
                  · intro wS hSw; (try dsimp only at hSw); go_simp; first | done | with_reducible rfl
                  try simp only [Act.put, List.setIfInBounds_toArray, List.set_cons_zero, List.set_cons_succ]
                  refine wpAnyH_take (i := 3) (oi := { dst := some 68, op := Op.move (Operand.tmp 0), type := 22, pos := _, after := _, guard := none }) (v := ?_) rfl (by kernel_rfl) (by kernel_rfl) (by kernel_rfl) (fun _ _ _ h => h) (Or.inl ⟨by rfl, ?_⟩) (by assumption) ?_
                  rotate_left
                  · intro wS hSw; (try dsimp only at hSw); go_simp; first | done | with_reducible rfl
                  try simp only [Act.put, List.setIfInBounds_toArray, List.set_cons_zero, List.set_cons_succ]
                  refine wpAnyH_take (i := 4) (oi := { dst := some 69, op := Op.move (Operand.tmp 4), type := 3, pos := _, after := _, guard := none }) (v := ?_) rfl (by kernel_rfl) (by kernel_rfl) (by kernel_rfl) (fun _ _ _ h => h) (Or.inl ⟨by rfl, ?_⟩) (by assumption) ?_
                  rotate_left
                  · intro wS hSw; (try dsimp only at hSw); go_simp; first | done | with_reducible rfl
                  try simp only [Act.put, List.setIfInBounds_toArray, List.set_cons_zero, List.set_cons_succ]
                  refine wpAnyH_take (i := 5) (oi := { dst := some 70, op := Op.indexAddr 22 (Operand.tmp 68) (Operand.tmp 69), type := 0, pos := _, after := _, guard := none }) (v := ?_) rfl (by kernel_rfl) (by kernel_rfl) (by kernel_rfl) (fun _ _ _ h => h) (Or.inl ⟨by rfl, ?_⟩) (by assumption) ?_
                  rotate_left
                  · intro wS hSw; (try dsimp only at hSw); go_simp; first | done | with_reducible rfl
                  try simp only [Act.put, List.setIfInBounds_toArray, List.set_cons_zero, List.set_cons_succ]
                  refine wpAnyH_take (i := 6) (oi := { dst := some 71, op := Op.load 30 (Operand.tmp 70), type := 30, pos := _, after := _, guard := none }) (v := ?_) rfl (by kernel_rfl) (by kernel_rfl) (by kernel_rfl) (fun _ _ _ h => h) (Or.inl ⟨by rfl, ?_⟩) (by assumption) ?_
                  rotate_left
                  · intro wS hSw; (try dsimp only at hSw); go_simp; first | done | with_reducible rfl
                  try simp only [Act.put, List.setIfInBounds_toArray, List.set_cons_zero, List.set_cons_succ]
                  have hB7 : Below w.heap.size w (w6.alloc (.cells #[.int .i64 ii, .int .i64 dd, .int .i64 cc, .int .i64 vv, .int .i64 rr] 30)).drew := (HB6.out.alloc HB6.out.size _).drew
                  have ho7 : OwnR recA (w6.alloc (.cells #[.int .i64 ii, .int .i64 dd, .int .i64 cc, .int .i64 vv, .int .i64 rr] 30)).drew w.heap.size 30 (.slice (some ⟨g, 0, none⟩) j cap) j (atA L) := HO6.out.later (((Below.refl _ _).alloc (Nat.le_refl _) _).drew)
                  have hr7 : OwnR recA (w6.alloc (.cells #[.int .i64 ii, .int .i64 dd, .int .i64 cc, .int .i64 vv, .int .i64 rr] 30)).drew W2.heap.size 30 rv (j - (m + 1)) (fun t => atA L ((m + 1) + t)) := HR6.out.later (((Below.refl _ _).alloc (Nat.le_refl _) _).drew)
                  have hone : Rws recA (w6.alloc (.cells #[.int .i64 ii, .int .i64 dd, .int .i64 cc, .int .i64 vv, .int .i64 rr] 30)).drew (.slice (some ⟨w6.heap.size, 0, none⟩) 1 1) 1 (fun _ => (⟨ii, dd, cc, vv, rr⟩ : Ap)) := Rws.congr (Rws.later (Aps.one w6 ii dd cc vv rr) (Below.refl _ _).drew) (fun i hi => by obtain rfl : i = 0 := (by omega); rfl)
                  refine wpAnyH_ready (rs := [7]) (by kernel_rfl) (by simp) ?_
                  refine AllReadyH.cons (o := { dst := some 72, op := Op.buildSlice 22 1 #[(0, Operand.tmp 71)], type := 22, pos := _, after := _, guard := none }) rfl (fun K hK => ?_) AllReadyH.nil
                  go_simp
                  refine hK.out _ _ ?_ (fun hHeld => ?_)
                  · exact HCW.out.later hB7
                  clear hK K
                  try simp only [Act.put, List.setIfInBounds_toArray, List.set_cons_zero, List.set_cons_succ]
                  refine wpAnyH_ready (rs := [8]) (by kernel_rfl) (by simp) ?_
                  refine AllReadyH.cons (o := { dst := some 73, op := Op.call { callee := Callee.builtin Builtin.append, args := #[Operand.tmp 67, Operand.tmp 72], argTypes := #[22, 22] }, type := 22, pos := _, after := _, guard := none }) rfl (fun K hK => ?_) AllReadyH.nil
                  refine step_append_rwsG (R := recA) Try.underlying22 Try.infoApe rfl (by omega) rfl _ _ rfl w.heap.size (.slice (some ⟨g, 0, none⟩) (m + 1) cap) _ (m + 1) 1 (atA L) (fun _ => (⟨ii, dd, cc, vv, rr⟩ : Ap)) (by go_simp) (OwnR.front (t := m + 1) ho7 (by omega)) rfl hone (by omega) hB7.size ?_
                  intro v8 w8 ho8 hg8 _
                  have HB8 : Hid (Below w.heap.size w w8) := hB7.grown hg8 hB7.size (fun k hk => by simp [Value.ownBlock] at hk; omega)
                  have HR8 : Hid (OwnR recA w8 W2.heap.size 30 rv (j - (m + 1)) (fun t => atA L ((m + 1) + t))) := OwnR.kept hr7 hg8 (fun k hk => by simp [Value.ownBlock] at hk; omega)
                  have HO8 : Hid (OwnR recA w8 w.heap.size 30 v8 ((m + 1) + 1) (catR (m + 1) (atA L) (fun _ => (⟨ii, dd, cc, vv, rr⟩ : Ap)))) := ho8
                  refine hK.out _ _ ?_ (fun hHeld => ?_)
                  · exact HCW.out.later HB8.out
                  clear hK K
                  try simp only [Act.put, List.setIfInBounds_toArray, List.set_cons_zero, List.set_cons_succ]
                  refine wpAnyH_take (i := 9) (oi := { dst := some 3, op := Op.assign (Operand.tmp 73), type := 22, pos := _, after := _, guard := none }) (v := ?_) rfl (by kernel_rfl) (by kernel_rfl) (by kernel_rfl) (fun _ _ _ h => h) (Or.inl ⟨by rfl, ?_⟩) (by assumption) ?_
                  rotate_left
                  · intro wS hSw; (try dsimp only at hSw); go_simp; first | done | with_reducible rfl
                  try simp only [Act.put, List.setIfInBounds_toArray, List.set_cons_zero, List.set_cons_succ]
                  refine wpAnyH_done (by kernel_rfl) ?_ _
                  clear hone hr7 ho7 hB7 ho8 hg8 HR6 HO6 HB6
                  go_wp2_with (first | (at_builtin; refine append_rws (R := recA) Try.underlying22 Try.infoApe rfl (by omega) rfl _ _ rfl w.heap.size v8 rv ((m + 1) + 1) (j - (m + 1)) (catR (m + 1) (atA L) (fun _ => (⟨ii, dd, cc, vv, rr⟩ : Ap))) (fun t => atA L ((m + 1) + t)) rfl HO8.out rfl (by go_simp; exact HR8.out.rws) (by omega) HB8.out.size ?_; intro v9 w9 ho9 hb9))
                  have HN : Hid (OwnA w9 w.heap.size v9 (ordA (xs.take (j + 1)))) := by
                    show OwnA _ _ _ _
                    rw [HX.out, HI.out]
                    exact OwnA.ins (k := (m + 1)) (by omega) (by omega) ho9
                  have HB9 : Hid (Below w.heap.size w w9) := HB8.out.trans hb9
                  clear HR8 HO8 HB8 ho9 hb9 HX HI
                  go_wp2_with fail
                  go_roundw
                  case rel => exact ⟨j + 1, _, rfl, by omega, by go_num, HN.out, HB9.out⟩
                  case measure => simp [intOf]; omega
                · have HR6 : Hid (OwnR recA w6 W2.heap.size 30 rv (j - (m + 1)) (fun t => atA L ((m + 1) + t))) := ho6.same
                  have HO6 : Hid (OwnR recA w6 w.heap.size 30 (.slice (some ⟨g, 0, none⟩) j cap) j (atA L)) := HO2.out.later hb6
                  have HB6 : Hid (Below w.heap.size w w6) := HB2.out.trans (hb6.mono HB2.out.size)
                  have s26 := hb6.size
                  clear HT HO2 HB2 ho6 hb6
                  refine wp_region_held_drew (S := (fun w' : World => w'.cell? ⟨bk, o + j * 5, none⟩ = some (.int .i64 ii) ∧ w'.cell? ⟨bk, o + j * 5 + 1, none⟩ = some (.int .i64 dd) ∧ w'.cell? ⟨bk, o + j * 5 + 2, none⟩ = some (.int .i64 cc) ∧ w'.cell? ⟨bk, o + j * 5 + 3, none⟩ = some (.int .i64 vv) ∧ w'.cell? ⟨bk, o + j * 5 + 4, none⟩ = some (.int .i64 rr))) (by kernel_rfl) ?_ (fun hHeld => ?_)
                  · exact HCW.out.later HB6.out.drew
                  refine wpAnyH_take (i := 0) (oi := { dst := some 65, op := Op.move (Operand.tmp 3), type := 22, pos := _, after := _, guard := none }) (v := ?_) rfl (by kernel_rfl) (by kernel_rfl) (by kernel_rfl) (fun _ _ _ h => h) (Or.inl ⟨by rfl, ?_⟩) (by assumption) ?_
                  rotate_left
                  · intro wS hSw; (try dsimp only at hSw); go_simp; first | done | with_reducible rfl
                  try simp only [Act.put, List.setIfInBounds_toArray, List.set_cons_zero, List.set_cons_succ]
                  refine wpAnyH_take (i := 1) (oi := { dst := some 66, op := Op.move (Operand.tmp 5), type := 3, pos := _, after := _, guard := none }) (v := ?_) rfl (by kernel_rfl) (by kernel_rfl) (by kernel_rfl) (fun _ _ _ h => h) (Or.inl ⟨by rfl, ?_⟩) (by assumption) ?_
                  rotate_left
                  · intro wS hSw; (try dsimp only at hSw); go_simp; first | done | with_reducible rfl
                  try simp only [Act.put, List.setIfInBounds_toArray, List.set_cons_zero, List.set_cons_succ]
                  refine wpAnyH_take (i := 2) (oi := { dst := some 67, op := Op.slice 22 (Operand.tmp 65) none (some (Operand.tmp 66)) none, type := 22, pos := _, after := _, guard := none }) (v := ?_) rfl (by kernel_rfl) (by kernel_rfl) (by kernel_rfl) (fun _ _ _ h => h) (Or.inl ⟨by rfl, ?_⟩) (by assumption) ?_
                  rotate_left
                  · intro wS hSw; (try dsimp only at hSw); go_simp; first | done | with_reducible rfl
                  try simp only [Act.put, List.setIfInBounds_toArray, List.set_cons_zero, List.set_cons_succ]
                  refine wpAnyH_take (i := 3) (oi := { dst := some 68, op := Op.move (Operand.tmp 0), type := 22, pos := _, after := _, guard := none }) (v := ?_) rfl (by kernel_rfl) (by kernel_rfl) (by kernel_rfl) (fun _ _ _ h => h) (Or.inl ⟨by rfl, ?_⟩) (by assumption) ?_
                  rotate_left
                  · intro wS hSw; (try dsimp only at hSw); go_simp; first | done | with_reducible rfl
                  try simp only [Act.put, List.setIfInBounds_toArray, List.set_cons_zero, List.set_cons_succ]
                  refine wpAnyH_take (i := 4) (oi := { dst := some 69, op := Op.move (Operand.tmp 4), type := 3, pos := _, after := _, guard := none }) (v := ?_) rfl (by kernel_rfl) (by kernel_rfl) (by kernel_rfl) (fun _ _ _ h => h) (Or.inl ⟨by rfl, ?_⟩) (by assumption) ?_
                  rotate_left
                  · intro wS hSw; (try dsimp only at hSw); go_simp; first | done | with_reducible rfl
                  try simp only [Act.put, List.setIfInBounds_toArray, List.set_cons_zero, List.set_cons_succ]
                  refine wpAnyH_take (i := 5) (oi := { dst := some 70, op := Op.indexAddr 22 (Operand.tmp 68) (Operand.tmp 69), type := 0, pos := _, after := _, guard := none }) (v := ?_) rfl (by kernel_rfl) (by kernel_rfl) (by kernel_rfl) (fun _ _ _ h => h) (Or.inl ⟨by rfl, ?_⟩) (by assumption) ?_
                  rotate_left
                  · intro wS hSw; (try dsimp only at hSw); go_simp; first | done | with_reducible rfl
                  try simp only [Act.put, List.setIfInBounds_toArray, List.set_cons_zero, List.set_cons_succ]
                  refine wpAnyH_take (i := 6) (oi := { dst := some 71, op := Op.load 30 (Operand.tmp 70), type := 30, pos := _, after := _, guard := none }) (v := ?_) rfl (by kernel_rfl) (by kernel_rfl) (by kernel_rfl) (fun _ _ _ h => h) (Or.inl ⟨by rfl, ?_⟩) (by assumption) ?_
                  rotate_left
                  · intro wS hSw; (try dsimp only at hSw); go_simp; first | done | with_reducible rfl
                  try simp only [Act.put, List.setIfInBounds_toArray, List.set_cons_zero, List.set_cons_succ]
                  have hB7 : Below w.heap.size w (w6.alloc (.cells #[.int .i64 ii, .int .i64 dd, .int .i64 cc, .int .i64 vv, .int .i64 rr] 30)).drew := (HB6.out.alloc HB6.out.size _).drew
                  have ho7 : OwnR recA (w6.alloc (.cells #[.int .i64 ii, .int .i64 dd, .int .i64 cc, .int .i64 vv, .int .i64 rr] 30)).drew w.heap.size 30 (.slice (some ⟨g, 0, none⟩) j cap) j (atA L) := HO6.out.later (((Below.refl _ _).alloc (Nat.le_refl _) _).drew)
                  have hr7 : OwnR recA (w6.alloc (.cells #[.int .i64 ii, .int .i64 dd, .int .i64 cc, .int .i64 vv, .int .i64 rr] 30)).drew W2.heap.size 30 rv (j - (m + 1)) (fun t => atA L ((m + 1) + t)) := HR6.out.later (((Below.refl _ _).alloc (Nat.le_refl _) _).drew)
                  have hone : Rws recA (w6.alloc (.cells #[.int .i64 ii, .int .i64 dd, .int .i64 cc, .int .i64 vv, .int .i64 rr] 30)).drew (.slice (some ⟨w6.heap.size, 0, none⟩) 1 1) 1 (fun _ => (⟨ii, dd, cc, vv, rr⟩ : Ap)) := Rws.congr (Rws.later (Aps.one w6 ii dd cc vv rr) (Below.refl _ _).drew) (fun i hi => by obtain rfl : i = 0 := (by omega); rfl)
                  refine wpAnyH_ready (rs := [7]) (by kernel_rfl) (by simp) ?_
                  refine AllReadyH.cons (o := { dst := some 72, op := Op.buildSlice 22 1 #[(0, Operand.tmp 71)], type := 22, pos := _, after := _, guard := none }) rfl (fun K hK => ?_) AllReadyH.nil
                  go_simp
                  refine hK.out _ _ ?_ (fun hHeld => ?_)
                  · exact HCW.out.later hB7
                  clear hK K
                  try simp only [Act.put, List.setIfInBounds_toArray, List.set_cons_zero, List.set_cons_succ]
                  refine wpAnyH_ready (rs := [8]) (by kernel_rfl) (by simp) ?_
                  refine AllReadyH.cons (o := { dst := some 73, op := Op.call { callee := Callee.builtin Builtin.append, args := #[Operand.tmp 67, Operand.tmp 72], argTypes := #[22, 22] }, type := 22, pos := _, after := _, guard := none }) rfl (fun K hK => ?_) AllReadyH.nil
                  refine step_append_rwsG (R := recA) Try.underlying22 Try.infoApe rfl (by omega) rfl _ _ rfl w.heap.size (.slice (some ⟨g, 0, none⟩) (m + 1) cap) _ (m + 1) 1 (atA L) (fun _ => (⟨ii, dd, cc, vv, rr⟩ : Ap)) (by go_simp) (OwnR.front (t := m + 1) ho7 (by omega)) rfl hone (by omega) hB7.size ?_
                  intro v8 w8 ho8 hg8 _
                  have HB8 : Hid (Below w.heap.size w w8) := hB7.grown hg8 hB7.size (fun k hk => by simp [Value.ownBlock] at hk; omega)
                  have HR8 : Hid (OwnR recA w8 W2.heap.size 30 rv (j - (m + 1)) (fun t => atA L ((m + 1) + t))) := OwnR.kept hr7 hg8 (fun k hk => by simp [Value.ownBlock] at hk; omega)
                  have HO8 : Hid (OwnR recA w8 w.heap.size 30 v8 ((m + 1) + 1) (catR (m + 1) (atA L) (fun _ => (⟨ii, dd, cc, vv, rr⟩ : Ap)))) := ho8
                  refine hK.out _ _ ?_ (fun hHeld => ?_)
                  · exact HCW.out.later HB8.out
                  clear hK K
                  try simp only [Act.put, List.setIfInBounds_toArray, List.set_cons_zero, List.set_cons_succ]
                  refine wpAnyH_take (i := 9) (oi := { dst := some 3, op := Op.assign (Operand.tmp 73), type := 22, pos := _, after := _, guard := none }) (v := ?_) rfl (by kernel_rfl) (by kernel_rfl) (by kernel_rfl) (fun _ _ _ h => h) (Or.inl ⟨by rfl, ?_⟩) (by assumption) ?_
                  rotate_left
                  · intro wS hSw; (try dsimp only at hSw); go_simp; first | done | with_reducible rfl
                  try simp only [Act.put, List.setIfInBounds_toArray, List.set_cons_zero, List.set_cons_succ]
                  refine wpAnyH_done (by kernel_rfl) ?_ _
                  clear hone hr7 ho7 hB7 ho8 hg8 HR6 HO6 HB6
                  go_wp2_with (first | (at_builtin; refine append_rws (R := recA) Try.underlying22 Try.infoApe rfl (by omega) rfl _ _ rfl w.heap.size v8 rv ((m + 1) + 1) (j - (m + 1)) (catR (m + 1) (atA L) (fun _ => (⟨ii, dd, cc, vv, rr⟩ : Ap))) (fun t => atA L ((m + 1) + t)) rfl HO8.out rfl (by go_simp; exact HR8.out.rws) (by omega) HB8.out.size ?_; intro v9 w9 ho9 hb9))
                  have HN : Hid (OwnA w9 w.heap.size v9 (ordA (xs.take (j + 1)))) := by
                    show OwnA _ _ _ _
                    rw [HX.out, HI.out]
                    exact OwnA.ins (k := (m + 1)) (by omega) (by omega) ho9
                  have HB9 : Hid (Below w.heap.size w w9) := HB8.out.trans hb9
                  clear HR8 HO8 HB8 ho9 hb9 HX HI
                  go_wp2_with fail
                  go_roundw
                  case rel => exact ⟨j + 1, _, rfl, by omega, by go_num, HN.out, HB9.out⟩
                  case measure => simp [intOf]; omega
            · have HI2 := HI.out (ahd_not.2 (.inl (by show d' < dd; omega)))
              have HI : Hid (insA ⟨ii, dd, cc, vv, rr⟩ L = L.take (m + 1) ++ ⟨ii, dd, cc, vv, rr⟩ :: L.drop (m + 1)) := HI2
              have q2' : (dd == d') = false := by simpa using q2
              clear HN HI2 q2
              go_wp2_with fail
              go_quiet (fail)
              clear q1 q1' q2' y0 y1 x0 x1
              have HBK : Hid (Below W1.heap.size W1 (wr.drewN nq)) := ⟨hbk.os, hbk.tape, hbk.output, hbk.size, hbk.block⟩
              clear hbk
              generalize wr.drewN nq = W2 at *
              have HB2 : Hid (Below w.heap.size w W2) := HB1.out.trans (HBK.out.mono HB1.out.size)
              have HO2 : Hid (OwnR recA W2 w.heap.size 30 (.slice (some ⟨g, 0, none⟩) j cap) j (atA L)) := HR.out.later HBK.out
              have hg2 : g < W2.heap.size := Nat.lt_of_lt_of_le g2 HBK.out.size
              have HT : Hid (Rws recA W2 (.slice (if cap = m + 1 then some ⟨g, 0, none⟩ else some ⟨g, (m + 1) * 5, none⟩) (j - (m + 1)) (cap - (m + 1))) (j - (m + 1)) (fun t => atA L ((m + 1) + t))) := by
                show Rws _ _ _ _ _
                split
                · next hc => exact Rws.zero (by omega) (by omega) (by omega)
                · have h := Rws.tail (R := recA) (t := m + 1) HO2.out.rws (by omega)
                  rw [Nat.zero_add] at h
                  exact h
              have hkc : (m : Int) + 1 ≤ cap := by omega
              have hk0 : (0 : Int) ≤ (m : Int) + 1 := by omega
              clear HBK HR HB1 HS
              go_wp2_with (first | (at_builtin; refine append_rws (R := recA) Try.underlying22 Try.infoApe rfl (by omega) rfl _ _ rfl W2.heap.size (.slice none 0 0) _ 0 (j - (m + 1)) (fun _ => apZ) (fun t => atA L ((m + 1) + t)) rfl (OwnR.nil _ _ _ _ _) rfl (by go_simp; exact HT.out) (by omega) (Nat.le_refl _) ?_; intro rv w6 ho6 hb6))
              · have HR6 : Hid (OwnR recA w6 W2.heap.size 30 rv (j - (m + 1)) (fun t => atA L ((m + 1) + t))) := ho6.same
                have HO6 : Hid (OwnR recA w6 w.heap.size 30 (.slice (some ⟨g, 0, none⟩) j cap) j (atA L)) := HO2.out.later hb6
                have HB6 : Hid (Below w.heap.size w w6) := HB2.out.trans (hb6.mono HB2.out.size)
                have s26 := hb6.size
                clear HT HO2 HB2 ho6 hb6
                refine wp_region_held_drew (S := (fun w' : World => w'.cell? ⟨bk, o + j * 5, none⟩ = some (.int .i64 ii) ∧ w'.cell? ⟨bk, o + j * 5 + 1, none⟩ = some (.int .i64 dd) ∧ w'.cell? ⟨bk, o + j * 5 + 2, none⟩ = some (.int .i64 cc) ∧ w'.cell? ⟨bk, o + j * 5 + 3, none⟩ = some (.int .i64 vv) ∧ w'.cell? ⟨bk, o + j * 5 + 4, none⟩ = some (.int .i64 rr))) (by kernel_rfl) ?_ (fun hHeld => ?_)
                · exact HCW.out.later HB6.out.drew
                refine wpAnyH_take (i := 0) (oi := { dst := some 65, op := Op.move (Operand.tmp 3), type := 22, pos := _, after := _, guard := none }) (v := ?_) rfl (by kernel_rfl) (by kernel_rfl) (by kernel_rfl) (fun _ _ _ h => h) (Or.inl ⟨by rfl, ?_⟩) (by assumption) ?_
                rotate_left
                · intro wS hSw; (try dsimp only at hSw); go_simp; first | done | with_reducible rfl
                try simp only [Act.put, List.setIfInBounds_toArray, List.set_cons_zero, List.set_cons_succ]
                refine wpAnyH_take (i := 1) (oi := { dst := some 66, op := Op.move (Operand.tmp 5), type := 3, pos := _, after := _, guard := none }) (v := ?_) rfl (by kernel_rfl) (by kernel_rfl) (by kernel_rfl) (fun _ _ _ h => h) (Or.inl ⟨by rfl, ?_⟩) (by assumption) ?_
                rotate_left
                · intro wS hSw; (try dsimp only at hSw); go_simp; first | done | with_reducible rfl
                try simp only [Act.put, List.setIfInBounds_toArray, List.set_cons_zero, List.set_cons_succ]
                refine wpAnyH_take (i := 2) (oi := { dst := some 67, op := Op.slice 22 (Operand.tmp 65) none (some (Operand.tmp 66)) none, type := 22, pos := _, after := _, guard := none }) (v := ?_) rfl (by kernel_rfl) (by kernel_rfl) (by kernel_rfl) (fun _ _ _ h => h) (Or.inl ⟨by rfl, ?_⟩) (by assumption) ?_
                rotate_left
                · intro wS hSw; (try dsimp only at hSw); go_simp; first | done | with_reducible rfl
                try simp only [Act.put, List.setIfInBounds_toArray, List.set_cons_zero, List.set_cons_succ]
                refine wpAnyH_take (i := 3) (oi := { dst := some 68, op := Op.move (Operand.tmp 0), type := 22, pos := _, after := _, guard := none }) (v := ?_) rfl (by kernel_rfl) (by kernel_rfl) (by kernel_rfl) (fun _ _ _ h => h) (Or.inl ⟨by rfl, ?_⟩) (by assumption) ?_
                rotate_left
                · intro wS hSw; (try dsimp only at hSw); go_simp; first | done | with_reducible rfl
                try simp only [Act.put, List.setIfInBounds_toArray, List.set_cons_zero, List.set_cons_succ]
                refine wpAnyH_take (i := 4) (oi := { dst := some 69, op := Op.move (Operand.tmp 4), type := 3, pos := _, after := _, guard := none }) (v := ?_) rfl (by kernel_rfl) (by kernel_rfl) (by kernel_rfl) (fun _ _ _ h => h) (Or.inl ⟨by rfl, ?_⟩) (by assumption) ?_
                rotate_left
                · intro wS hSw; (try dsimp only at hSw); go_simp; first | done | with_reducible rfl
                try simp only [Act.put, List.setIfInBounds_toArray, List.set_cons_zero, List.set_cons_succ]
                refine wpAnyH_take (i := 5) (oi := { dst := some 70, op := Op.indexAddr 22 (Operand.tmp 68) (Operand.tmp 69), type := 0, pos := _, after := _, guard := none }) (v := ?_) rfl (by kernel_rfl) (by kernel_rfl) (by kernel_rfl) (fun _ _ _ h => h) (Or.inl ⟨by rfl, ?_⟩) (by assumption) ?_
                rotate_left
                · intro wS hSw; (try dsimp only at hSw); go_simp; first | done | with_reducible rfl
                try simp only [Act.put, List.setIfInBounds_toArray, List.set_cons_zero, List.set_cons_succ]
                refine wpAnyH_take (i := 6) (oi := { dst := some 71, op := Op.load 30 (Operand.tmp 70), type := 30, pos := _, after := _, guard := none }) (v := ?_) rfl (by kernel_rfl) (by kernel_rfl) (by kernel_rfl) (fun _ _ _ h => h) (Or.inl ⟨by rfl, ?_⟩) (by assumption) ?_
                rotate_left
                · intro wS hSw; (try dsimp only at hSw); go_simp; first | done | with_reducible rfl
                try simp only [Act.put, List.setIfInBounds_toArray, List.set_cons_zero, List.set_cons_succ]
                have hB7 : Below w.heap.size w (w6.alloc (.cells #[.int .i64 ii, .int .i64 dd, .int .i64 cc, .int .i64 vv, .int .i64 rr] 30)).drew := (HB6.out.alloc HB6.out.size _).drew
                have ho7 : OwnR recA (w6.alloc (.cells #[.int .i64 ii, .int .i64 dd, .int .i64 cc, .int .i64 vv, .int .i64 rr] 30)).drew w.heap.size 30 (.slice (some ⟨g, 0, none⟩) j cap) j (atA L) := HO6.out.later (((Below.refl _ _).alloc (Nat.le_refl _) _).drew)
                have hr7 : OwnR recA (w6.alloc (.cells #[.int .i64 ii, .int .i64 dd, .int .i64 cc, .int .i64 vv, .int .i64 rr] 30)).drew W2.heap.size 30 rv (j - (m + 1)) (fun t => atA L ((m + 1) + t)) := HR6.out.later (((Below.refl _ _).alloc (Nat.le_refl _) _).drew)
                have hone : Rws recA (w6.alloc (.cells #[.int .i64 ii, .int .i64 dd, .int .i64 cc, .int .i64 vv, .int .i64 rr] 30)).drew (.slice (some ⟨w6.heap.size, 0, none⟩) 1 1) 1 (fun _ => (⟨ii, dd, cc, vv, rr⟩ : Ap)) := Rws.congr (Rws.later (Aps.one w6 ii dd cc vv rr) (Below.refl _ _).drew) (fun i hi => by obtain rfl : i = 0 := (by omega); rfl)
                refine wpAnyH_ready (rs := [7]) (by kernel_rfl) (by simp) ?_
                refine AllReadyH.cons (o := { dst := some 72, op := Op.buildSlice 22 1 #[(0, Operand.tmp 71)], type := 22, pos := _, after := _, guard := none }) rfl (fun K hK => ?_) AllReadyH.nil
                go_simp
                refine hK.out _ _ ?_ (fun hHeld => ?_)
                · exact HCW.out.later hB7
                clear hK K
                try simp only [Act.put, List.setIfInBounds_toArray, List.set_cons_zero, List.set_cons_succ]
                refine wpAnyH_ready (rs := [8]) (by kernel_rfl) (by simp) ?_
                refine AllReadyH.cons (o := { dst := some 73, op := Op.call { callee := Callee.builtin Builtin.append, args := #[Operand.tmp 67, Operand.tmp 72], argTypes := #[22, 22] }, type := 22, pos := _, after := _, guard := none }) rfl (fun K hK => ?_) AllReadyH.nil
                refine step_append_rwsG (R := recA) Try.underlying22 Try.infoApe rfl (by omega) rfl _ _ rfl w.heap.size (.slice (some ⟨g, 0, none⟩) (m + 1) cap) _ (m + 1) 1 (atA L) (fun _ => (⟨ii, dd, cc, vv, rr⟩ : Ap)) (by go_simp) (OwnR.front (t := m + 1) ho7 (by omega)) rfl hone (by omega) hB7.size ?_
                intro v8 w8 ho8 hg8 _
                have HB8 : Hid (Below w.heap.size w w8) := hB7.grown hg8 hB7.size (fun k hk => by simp [Value.ownBlock] at hk; omega)
                have HR8 : Hid (OwnR recA w8 W2.heap.size 30 rv (j - (m + 1)) (fun t => atA L ((m + 1) + t))) := OwnR.kept hr7 hg8 (fun k hk => by simp [Value.ownBlock] at hk; omega)
                have HO8 : Hid (OwnR recA w8 w.heap.size 30 v8 ((m + 1) + 1) (catR (m + 1) (atA L) (fun _ => (⟨ii, dd, cc, vv, rr⟩ : Ap)))) := ho8
                refine hK.out _ _ ?_ (fun hHeld => ?_)
                · exact HCW.out.later HB8.out
                clear hK K
                try simp only [Act.put, List.setIfInBounds_toArray, List.set_cons_zero, List.set_cons_succ]
                refine wpAnyH_take (i := 9) (oi := { dst := some 3, op := Op.assign (Operand.tmp 73), type := 22, pos := _, after := _, guard := none }) (v := ?_) rfl (by kernel_rfl) (by kernel_rfl) (by kernel_rfl) (fun _ _ _ h => h) (Or.inl ⟨by rfl, ?_⟩) (by assumption) ?_
                rotate_left
                · intro wS hSw; (try dsimp only at hSw); go_simp; first | done | with_reducible rfl
                try simp only [Act.put, List.setIfInBounds_toArray, List.set_cons_zero, List.set_cons_succ]
                refine wpAnyH_done (by kernel_rfl) ?_ _
                clear hone hr7 ho7 hB7 ho8 hg8 HR6 HO6 HB6
                go_wp2_with (first | (at_builtin; refine append_rws (R := recA) Try.underlying22 Try.infoApe rfl (by omega) rfl _ _ rfl w.heap.size v8 rv ((m + 1) + 1) (j - (m + 1)) (catR (m + 1) (atA L) (fun _ => (⟨ii, dd, cc, vv, rr⟩ : Ap))) (fun t => atA L ((m + 1) + t)) rfl HO8.out rfl (by go_simp; exact HR8.out.rws) (by omega) HB8.out.size ?_; intro v9 w9 ho9 hb9))
                have HN : Hid (OwnA w9 w.heap.size v9 (ordA (xs.take (j + 1)))) := by
                  show OwnA _ _ _ _
                  rw [HX.out, HI.out]
                  exact OwnA.ins (k := (m + 1)) (by omega) (by omega) ho9
                have HB9 : Hid (Below w.heap.size w w9) := HB8.out.trans hb9
                clear HR8 HO8 HB8 ho9 hb9 HX HI
                go_wp2_with fail
                go_roundw
                case rel => exact ⟨j + 1, _, rfl, by omega, by go_num, HN.out, HB9.out⟩
                case measure => simp [intOf]; omega
              · have HR6 : Hid (OwnR recA w6 W2.heap.size 30 rv (j - (m + 1)) (fun t => atA L ((m + 1) + t))) := ho6.same
                have HO6 : Hid (OwnR recA w6 w.heap.size 30 (.slice (some ⟨g, 0, none⟩) j cap) j (atA L)) := HO2.out.later hb6
                have HB6 : Hid (Below w.heap.size w w6) := HB2.out.trans (hb6.mono HB2.out.size)
                have s26 := hb6.size
                clear HT HO2 HB2 ho6 hb6
                refine wp_region_held_drew (S := (fun w' : World => w'.cell? ⟨bk, o + j * 5, none⟩ = some (.int .i64 ii) ∧ w'.cell? ⟨bk, o + j * 5 + 1, none⟩ = some (.int .i64 dd) ∧ w'.cell? ⟨bk, o + j * 5 + 2, none⟩ = some (.int .i64 cc) ∧ w'.cell? ⟨bk, o + j * 5 + 3, none⟩ = some (.int .i64 vv) ∧ w'.cell? ⟨bk, o + j * 5 + 4, none⟩ = some (.int .i64 rr))) (by kernel_rfl) ?_ (fun hHeld => ?_)
                · exact HCW.out.later HB6.out.drew
                refine wpAnyH_take (i := 0) (oi := { dst := some 65, op := Op.move (Operand.tmp 3), type := 22, pos := _, after := _, guard := none }) (v := ?_) rfl (by kernel_rfl) (by kernel_rfl) (by kernel_rfl) (fun _ _ _ h => h) (Or.inl ⟨by rfl, ?_⟩) (by assumption) ?_
                rotate_left
                · intro wS hSw; (try dsimp only at hSw); go_simp; first | done | with_reducible rfl
                try simp only [Act.put, List.setIfInBounds_toArray, List.set_cons_zero, List.set_cons_succ]
                refine wpAnyH_take (i := 1) (oi := { dst := some 66, op := Op.move (Operand.tmp 5), type := 3, pos := _, after := _, guard := none }) (v := ?_) rfl (by kernel_rfl) (by kernel_rfl) (by kernel_rfl) (fun _ _ _ h => h) (Or.inl ⟨by rfl, ?_⟩) (by assumption) ?_
                rotate_left
                · intro wS hSw; (try dsimp only at hSw); go_simp; first | done | with_reducible rfl
                try simp only [Act.put, List.setIfInBounds_toArray, List.set_cons_zero, List.set_cons_succ]
                refine wpAnyH_take (i := 2) (oi := { dst := some 67, op := Op.slice 22 (Operand.tmp 65) none (some (Operand.tmp 66)) none, type := 22, pos := _, after := _, guard := none }) (v := ?_) rfl (by kernel_rfl) (by kernel_rfl) (by kernel_rfl) (fun _ _ _ h => h) (Or.inl ⟨by rfl, ?_⟩) (by assumption) ?_
                rotate_left
                · intro wS hSw; (try dsimp only at hSw); go_simp; first | done | with_reducible rfl
                try simp only [Act.put, List.setIfInBounds_toArray, List.set_cons_zero, List.set_cons_succ]
                refine wpAnyH_take (i := 3) (oi := { dst := some 68, op := Op.move (Operand.tmp 0), type := 22, pos := _, after := _, guard := none }) (v := ?_) rfl (by kernel_rfl) (by kernel_rfl) (by kernel_rfl) (fun _ _ _ h => h) (Or.inl ⟨by rfl, ?_⟩) (by assumption) ?_
                rotate_left
                · intro wS hSw; (try dsimp only at hSw); go_simp; first | done | with_reducible rfl
                try simp only [Act.put, List.setIfInBounds_toArray, List.set_cons_zero, List.set_cons_succ]
                refine wpAnyH_take (i := 4) (oi := { dst := some 69, op := Op.move (Operand.tmp 4), type := 3, pos := _, after := _, guard := none }) (v := ?_) rfl (by kernel_rfl) (by kernel_rfl) (by kernel_rfl) (fun _ _ _ h => h) (Or.inl ⟨by rfl, ?_⟩) (by assumption) ?_
                rotate_left
                · intro wS hSw; (try dsimp only at hSw); go_simp; first | done | with_reducible rfl
                try simp only [Act.put, List.setIfInBounds_toArray, List.set_cons_zero, List.set_cons_succ]
                refine wpAnyH_take (i := 5) (oi := { dst := some 70, op := Op.indexAddr 22 (Operand.tmp 68) (Operand.tmp 69), type := 0, pos := _, after := _, guard := none }) (v := ?_) rfl (by kernel_rfl) (by kernel_rfl) (by kernel_rfl) (fun _ _ _ h => h) (Or.inl ⟨by rfl, ?_⟩) (by assumption) ?_
                rotate_left
                · intro wS hSw; (try dsimp only at hSw); go_simp; first | done | with_reducible rfl
                try simp only [Act.put, List.setIfInBounds_toArray, List.set_cons_zero, List.set_cons_succ]
                refine wpAnyH_take (i := 6) (oi := { dst := some 71, op := Op.load 30 (Operand.tmp 70), type := 30, pos := _, after := _, guard := none }) (v := ?_) rfl (by kernel_rfl) (by kernel_rfl) (by kernel_rfl) (fun _ _ _ h => h) (Or.inl ⟨by rfl, ?_⟩) (by assumption) ?_
                rotate_left
                · intro wS hSw; (try dsimp only at hSw); go_simp; first | done | with_reducible rfl
                try simp only [Act.put, List.setIfInBounds_toArray, List.set_cons_zero, List.set_cons_succ]
                have hB7 : Below w.heap.size w (w6.alloc (.cells #[.int .i64 ii, .int .i64 dd, .int .i64 cc, .int .i64 vv, .int .i64 rr] 30)).drew := (HB6.out.alloc HB6.out.size _).drew
                have ho7 : OwnR recA (w6.alloc (.cells #[.int .i64 ii, .int .i64 dd, .int .i64 cc, .int .i64 vv, .int .i64 rr] 30)).drew w.heap.size 30 (.slice (some ⟨g, 0, none⟩) j cap) j (atA L) := HO6.out.later (((Below.refl _ _).alloc (Nat.le_refl _) _).drew)
                have hr7 : OwnR recA (w6.alloc (.cells #[.int .i64 ii, .int .i64 dd, .int .i64 cc, .int .i64 vv, .int .i64 rr] 30)).drew W2.heap.size 30 rv (j - (m + 1)) (fun t => atA L ((m + 1) + t)) := HR6.out.later (((Below.refl _ _).alloc (Nat.le_refl _) _).drew)
                have hone : Rws recA (w6.alloc (.cells #[.int .i64 ii, .int .i64 dd, .int .i64 cc, .int .i64 vv, .int .i64 rr] 30)).drew (.slice (some ⟨w6.heap.size, 0, none⟩) 1 1) 1 (fun _ => (⟨ii, dd, cc, vv, rr⟩ : Ap)) := Rws.congr (Rws.later (Aps.one w6 ii dd cc vv rr) (Below.refl _ _).drew) (fun i hi => by obtain rfl : i = 0 := (by omega); rfl)
                refine wpAnyH_ready (rs := [7]) (by kernel_rfl) (by simp) ?_
                refine AllReadyH.cons (o := { dst := some 72, op := Op.buildSlice 22 1 #[(0, Operand.tmp 71)], type := 22, pos := _, after := _, guard := none }) rfl (fun K hK => ?_) AllReadyH.nil
                go_simp
                refine hK.out _ _ ?_ (fun hHeld => ?_)
                · exact HCW.out.later hB7
                clear hK K
                try simp only [Act.put, List.setIfInBounds_toArray, List.set_cons_zero, List.set_cons_succ]
                refine wpAnyH_ready (rs := [8]) (by kernel_rfl) (by simp) ?_
                refine AllReadyH.cons (o := { dst := some 73, op := Op.call { callee := Callee.builtin Builtin.append, args := #[Operand.tmp 67, Operand.tmp 72], argTypes := #[22, 22] }, type := 22, pos := _, after := _, guard := none }) rfl (fun K hK => ?_) AllReadyH.nil
                refine step_append_rwsG (R := recA) Try.underlying22 Try.infoApe rfl (by omega) rfl _ _ rfl w.heap.size (.slice (some ⟨g, 0, none⟩) (m + 1) cap) _ (m + 1) 1 (atA L) (fun _ => (⟨ii, dd, cc, vv, rr⟩ : Ap)) (by go_simp) (OwnR.front (t := m + 1) ho7 (by omega)) rfl hone (by omega) hB7.size ?_
                intro v8 w8 ho8 hg8 _
                have HB8 : Hid (Below w.heap.size w w8) := hB7.grown hg8 hB7.size (fun k hk => by simp [Value.ownBlock] at hk; omega)
                have HR8 : Hid (OwnR recA w8 W2.heap.size 30 rv (j - (m + 1)) (fun t => atA L ((m + 1) + t))) := OwnR.kept hr7 hg8 (fun k hk => by simp [Value.ownBlock] at hk; omega)
                have HO8 : Hid (OwnR recA w8 w.heap.size 30 v8 ((m + 1) + 1) (catR (m + 1) (atA L) (fun _ => (⟨ii, dd, cc, vv, rr⟩ : Ap)))) := ho8
                refine hK.out _ _ ?_ (fun hHeld => ?_)
                · exact HCW.out.later HB8.out
                clear hK K
                try simp only [Act.put, List.setIfInBounds_toArray, List.set_cons_zero, List.set_cons_succ]
                refine wpAnyH_take (i := 9) (oi := { dst := some 3, op := Op.assign (Operand.tmp 73), type := 22, pos := _, after := _, guard := none }) (v := ?_) rfl (by kernel_rfl) (by kernel_rfl) (by kernel_rfl) (fun _ _ _ h => h) (Or.inl ⟨by rfl, ?_⟩) (by assumption) ?_
                rotate_left
                · intro wS hSw; (try dsimp only at hSw); go_simp; first | done | with_reducible rfl
                try simp only [Act.put, List.setIfInBounds_toArray, List.set_cons_zero, List.set_cons_succ]
                refine wpAnyH_done (by kernel_rfl) ?_ _
                clear hone hr7 ho7 hB7 ho8 hg8 HR6 HO6 HB6
                go_wp2_with (first | (at_builtin; refine append_rws (R := recA) Try.underlying22 Try.infoApe rfl (by omega) rfl _ _ rfl w.heap.size v8 rv ((m + 1) + 1) (j - (m + 1)) (catR (m + 1) (atA L) (fun _ => (⟨ii, dd, cc, vv, rr⟩ : Ap))) (fun t => atA L ((m + 1) + t)) rfl HO8.out rfl (by go_simp; exact HR8.out.rws) (by omega) HB8.out.size ?_; intro v9 w9 ho9 hb9))
                have HN : Hid (OwnA w9 w.heap.size v9 (ordA (xs.take (j + 1)))) := by
                  show OwnA _ _ _ _
                  rw [HX.out, HI.out]
                  exact OwnA.ins (k := (m + 1)) (by omega) (by omega) ho9
                have HB9 : Hid (Below w.heap.size w w9) := HB8.out.trans hb9
                clear HR8 HO8 HB8 ho9 hb9 HX HI
                go_wp2_with fail
                go_roundw
                case rel => exact ⟨j + 1, _, rfl, by omega, by go_num, HN.out, HB9.out⟩
                case measure => simp [intOf]; omega
end Go.Proofs.Ytjaaabliefcgaaa
/- The document's own Fits. -/
namespace Go.Proofs.Ytjaaabliefcgaaa
open Go.RowKit Go.Maps Go.Shelf

set_option maxHeartbeats 2000000 in
set_option maxRecDepth 100000 in
theorem reffits_any (xs : List Ap) (v : Value) (now : Int) (w : World) (h : Aps w v xs) (hx : xs.length ≤ 10) (hn : nearL xs) (h0 : -4503599627370496 ≤ now) (h1 : now ≤ 4503599627370496) :
    Calls Try.prog 19 #[v, .int .i64 now] w fun e w' => e = .returned (.bool (fitsA xs now)) ∧ Below w.heap.size w w' := by
  have HN : Hid (nearL (ordA xs)) := nearL_ord hn
  have HF : Hid (fitsA xs now = fitL now ((ordA xs).drop 0)) := rfl
  have hL : (ordA xs).length = xs.length := ordA_len xs
  clear hn
  go_enter Try.func19, Try.ntmps19
  go_wp2_with fail
  refine (ordered_any xs _ w h hx).mono ?_
  rintro e w1 ⟨u, rfl, hu, hb1⟩
  have sz1 := hb1.size
  obtain ⟨au, capu, rfl, u1, u2, _, u3⟩ := hu.aps.open
  rw [hL] at u1 u3
  rw [hL]
  have HA1 : Hid (∀ i, i < xs.length → ∃ b o, au = some ⟨b, o, none⟩ ∧ w1.cell? ⟨b, o + i * 5 + 1, none⟩ = some (.int .i64 (atA (ordA xs) i).due) ∧ w1.cell? ⟨b, o + i * 5 + 2, none⟩ = some (.int .i64 (atA (ordA xs) i).c) ∧ w1.cell? ⟨b, o + i * 5 + 4, none⟩ = some (.int .i64 (atA (ordA xs) i).r)) := fun i hi => by
    obtain ⟨b, o, e, h4⟩ := u3 (by omega)
    exact ⟨b, o, e, (h4 i hi).2.1, (h4 i hi).2.2.1, (h4 i hi).2.2.2.2⟩
  have HB1 : Hid (Below w.heap.size w w1) := hb1
  clear u3 hu h hb1
  go_wp2_with fail
  go_loopw [1, 6] (fun n i wr => ∃ (j : Nat) (nw : Int), j ≤ xs.length ∧ i = .int .i64 j ∧ n = .int .i64 nw ∧ Hid (fitsA xs now = fitL nw ((ordA xs).drop j)) ∧ -4503599627370496 - 2251799813685248 * (j : Int) ≤ nw ∧ nw ≤ 4503599627370496 + 2251799813685248 * (j : Int) ∧ Below w1.heap.size w1 wr) (fun _ i _ => ((xs.length : Int) - intOf i).toNat)
  case atStart => exact ⟨0, now, by omega, rfl, rfl, HF.out, by omega, by omega, Below.refl _ _⟩
  case round =>
    clear HF
    obtain ⟨j, nw, hj, rfl, rfl, HF, n0, n1, hbw⟩ := hrel
    by_cases hlt : (j : Int) < xs.length
    rotate_left
    · obtain rfl : j = xs.length := by omega
      have HG : Hid (fitsA xs now = true) := by show _ = _; rw [HF.out, List.drop_eq_nil_of_le (by omega)]; rfl
      have HB2 : Hid (Below w.heap.size w wr) := HB1.out.trans (hbw.mono HB1.out.size)
      go_wp2_with fail
      go_ret
      exact ⟨ret_b HG.out.symm, HB2.out⟩
    have hjL : j < (ordA xs).length := by omega
    obtain ⟨bu, ou, rfl, k1, k2, k4⟩ := HA1.out j (by omega)
    have c1 := cell_later hbw k1
    have c2 := cell_later hbw k2
    have c4 := cell_later hbw k4
    have hnr := HN.out _ (atA_mem hjL)
    have HFN : Hid (fitsA xs now = (decide (nw + ((atA (ordA xs) j).c - (atA (ordA xs) j).r) ≤ (atA (ordA xs) j).due) && fitL (nw + ((atA (ordA xs) j).c - (atA (ordA xs) j).r)) ((ordA xs).drop (j + 1)))) := HF.out.trans (fitL_next hjL nw)
    clear HF k1 k2 k4
    generalize atA (ordA xs) j = a at *
    obtain ⟨ii, dd, cc, vv, rr⟩ := a
    simp only at c1 c2 c4
    unfold nearA at hnr
    simp only at hnr
    obtain ⟨m0, m1, m2, m3, m4, m5⟩ := hnr
    have HFM : Hid (fitsA xs now = (decide (nw + (cc - rr) ≤ dd) && fitL (nw + (cc - rr)) ((ordA xs).drop (j + 1)))) := HFN.out
    have q1 : IntKind.i64.wrap (nw + cc) = nw + cc := wrap_near (by omega) (by omega)
    have q2 : IntKind.i64.wrap (nw + cc - rr) = nw + cc - rr := wrap_near (by omega) (by omega)
    obtain ⟨s, hs⟩ : ∃ s, nw + (cc - rr) = s := ⟨_, rfl⟩
    have q3 : nw + cc - rr = s := by omega
    have HNB : Hid (-4503599627370496 - 2251799813685248 * ((j + 1 : Nat) : Int) ≤ s ∧ s ≤ 4503599627370496 + 2251799813685248 * ((j + 1 : Nat) : Int)) := ⟨by omega, by omega⟩
    rw [hs] at HFM
    have q4 : IntKind.i64.wrap (nw + cc - rr) = s := q2.trans q3
    clear m0 m1 m2 m3 m4 m5 n0 n1 HFN hs q2 q3
    by_cases hd : s ≤ dd
    · have HG : Hid (fitsA xs now = fitL s ((ordA xs).drop (j + 1))) := by show _ = _; rw [HFM.out, decide_eq_true hd, Bool.true_and]
      clear HFM
      go_wp2_with fail
      go_quiet (fail)
      go_wp2_with fail
      go_roundw
      case rel => exact ⟨j + 1, s, by omega, by go_num, rfl, HG.out, HNB.out.1, HNB.out.2, ⟨hbw.os, hbw.tape, hbw.output, hbw.size, hbw.block⟩⟩
      case measure => simp [intOf]; omega
    · have HG : Hid (fitsA xs now = false) := by show _ = _; rw [HFM.out, decide_eq_false hd, Bool.false_and]
      have HB2 : Hid (∀ nq, Below w.heap.size w (wr.drewN nq)) := fun nq => HB1.out.trans ((⟨hbw.os, hbw.tape, hbw.output, hbw.size, hbw.block⟩ : Below w1.heap.size w1 (wr.drewN nq)).mono HB1.out.size)
      clear HFM
      go_wp2_with fail
      go_quiet (fail)
      go_wp2_with fail
      go_ret
      exact ⟨ret_b HG.out.symm, HB2.out _⟩
end Go.Proofs.Ytjaaabliefcgaaa
/- The document's own Order. -/
namespace Go.Proofs.Ytjaaabliefcgaaa
open Go.RowKit Go.Maps Go.Shelf

theorem keysA_next {xs : List Ap} {j : Nat} (h : j < xs.length) : keysA (xs.take (j + 1)) = keysA (xs.take j) ++ [(atA xs j).key] := by
  rw [takeA_next h]; unfold keysA; rw [List.map_append]; rfl
def OrderE (xs : List Ap) (w : World) (e : Ending) (w' : World) : Prop := ∃ u, e = .returned u ∧ OwnN w' w.heap.size u (idsA (ordA xs)) ∧ Below w.heap.size w w'
set_option maxHeartbeats 4000000 in
set_option maxRecDepth 100000 in
theorem reforder_any (xs : List Ap) (v : Value) (w : World) (h : Aps w v xs) (hx : xs.length ≤ 10) :
    Calls Try.prog 22 #[v] w (OrderE xs w) := by
  obtain ⟨i0, hi, hz0, hz1, hz2⟩ := info_parts Try.infoInt
  obtain ⟨ad, cap0, rfl, h1, h2, h0, h5⟩ := h.open
  clear h
  go_enter Try.func22, Try.ntmps22
  go_wp2_with fail
  go_loopw [3, 4] (fun q i wr => ∃ (j : Nat) (qv : Value), qv = q ∧ j ≤ xs.length ∧ i = .int .i64 j ∧ Hid (wr.ownsRow w.heap.size 50 2 qv j (flat (keysA (xs.take j)))) ∧ Below w.heap.size w wr) (fun _ i _ => ((xs.length : Int) - intOf i).toNat)
  case atStart => exact ⟨0, _, rfl, by omega, rfl, World.ownsRow_nil _ _ _ _, Below.refl _ _⟩
  case round =>
    obtain ⟨j, qv, rfl, hj, rfl, HO, hbw⟩ := hrel
    by_cases hjl : (j : Int) < xs.length
    · obtain ⟨bk, o, rfl, h6⟩ := h5 (by omega)
      have HCW : Hid (∀ w', Below w.heap.size w w' → w'.cell? ⟨bk, o + j * 5, none⟩ = some (.int .i64 (atA xs j).id) ∧ w'.cell? ⟨bk, o + j * 5 + 1, none⟩ = some (.int .i64 (atA xs j).due)) := fun w' hb => ⟨cell_later hb (h6 j (by omega)).1, cell_later hb (h6 j (by omega)).2.1⟩
      have HK : Hid (keysA (xs.take (j + 1)) = keysA (xs.take j) ++ [(atA xs j).key]) := keysA_next (by omega)
      clear h5 h6
      generalize atA xs j = a at *
      obtain ⟨ii, dd, cc, vv, rr⟩ := a
      change Hid (∀ w', Below w.heap.size w w' → w'.cell? ⟨bk, o + j * 5, none⟩ = some (.int .i64 ii) ∧ w'.cell? ⟨bk, o + j * 5 + 1, none⟩ = some (.int .i64 dd)) at HCW
      change Hid (keysA (xs.take (j + 1)) = keysA (xs.take j) ++ [(dd, ii)]) at HK
      go_wp2_with fail
      refine wp_region_held_drew (S := (fun w' : World => w'.cell? ⟨bk, o + j * 5, none⟩ = some (.int .i64 ii) ∧ w'.cell? ⟨bk, o + j * 5 + 1, none⟩ = some (.int .i64 dd))) (by kernel_rfl) ?_ (fun hHeld => ?_)
      · exact HCW.out _ hbw.drew
      refine wpAnyH_take (i := 0) (oi := { dst := some 13, op := Op.move (Operand.tmp 3), type := 48, pos := _, after := _, guard := none }) (v := ?_) rfl (by kernel_rfl) (by kernel_rfl) (by kernel_rfl) (fun _ _ _ h => h) (Or.inl ⟨by rfl, ?_⟩) (by assumption) ?_
      rotate_left
      · intro wS hSw; (try dsimp only at hSw); go_simp; first | done | with_reducible rfl
      try simp only [Act.put, List.setIfInBounds_toArray, List.set_cons_zero, List.set_cons_succ]
      refine wpAnyH_take (i := 1) (oi := { dst := some 14, op := Op.move (Operand.tmp 0), type := 22, pos := _, after := _, guard := none }) (v := ?_) rfl (by kernel_rfl) (by kernel_rfl) (by kernel_rfl) (fun _ _ _ h => h) (Or.inl ⟨by rfl, ?_⟩) (by assumption) ?_
      rotate_left
      · intro wS hSw; (try dsimp only at hSw); go_simp; first | done | with_reducible rfl
      try simp only [Act.put, List.setIfInBounds_toArray, List.set_cons_zero, List.set_cons_succ]
      refine wpAnyH_take (i := 2) (oi := { dst := some 15, op := Op.move (Operand.tmp 4), type := 3, pos := _, after := _, guard := none }) (v := ?_) rfl (by kernel_rfl) (by kernel_rfl) (by kernel_rfl) (fun _ _ _ h => h) (Or.inl ⟨by rfl, ?_⟩) (by assumption) ?_
      rotate_left
      · intro wS hSw; (try dsimp only at hSw); go_simp; first | done | with_reducible rfl
      try simp only [Act.put, List.setIfInBounds_toArray, List.set_cons_zero, List.set_cons_succ]
      refine wpAnyH_take (i := 3) (oi := { dst := some 16, op := Op.indexAddr 22 (Operand.tmp 14) (Operand.tmp 15), type := 0, pos := _, after := _, guard := none }) (v := ?_) rfl (by kernel_rfl) (by kernel_rfl) (by kernel_rfl) (fun _ _ _ h => h) (Or.inl ⟨by rfl, ?_⟩) (by assumption) ?_
      rotate_left
      · intro wS hSw; (try dsimp only at hSw); go_simp; first | done | with_reducible rfl
      try simp only [Act.put, List.setIfInBounds_toArray, List.set_cons_zero, List.set_cons_succ]
      refine wpAnyH_take (i := 4) (oi := { dst := some 17, op := Op.fieldAddr 30 (Operand.tmp 16) 1, type := 0, pos := _, after := _, guard := none }) (v := ?_) rfl (by kernel_rfl) (by kernel_rfl) (by kernel_rfl) (fun _ _ _ h => h) (Or.inl ⟨by rfl, ?_⟩) (by assumption) ?_
      rotate_left
      · intro wS hSw; (try dsimp only at hSw); go_simp; first | done | with_reducible rfl
      try simp only [Act.put, List.setIfInBounds_toArray, List.set_cons_zero, List.set_cons_succ]
      refine wpAnyH_take (i := 5) (oi := { dst := some 18, op := Op.load 3 (Operand.tmp 17), type := 3, pos := _, after := _, guard := none }) (v := ?_) rfl (by kernel_rfl) (by kernel_rfl) (by kernel_rfl) (fun _ _ _ h => h) (Or.inl ⟨by rfl, ?_⟩) (by assumption) ?_
      rotate_left
      · intro wS hSw; (try dsimp only at hSw); go_simp; first | done | with_reducible rfl
      try simp only [Act.put, List.setIfInBounds_toArray, List.set_cons_zero, List.set_cons_succ]
      refine wpAnyH_take (i := 6) (oi := { dst := some 19, op := Op.move (Operand.tmp 0), type := 22, pos := _, after := _, guard := none }) (v := ?_) rfl (by kernel_rfl) (by kernel_rfl) (by kernel_rfl) (fun _ _ _ h => h) (Or.inl ⟨by rfl, ?_⟩) (by assumption) ?_
      rotate_left
      · intro wS hSw; (try dsimp only at hSw); go_simp; first | done | with_reducible rfl
      try simp only [Act.put, List.setIfInBounds_toArray, List.set_cons_zero, List.set_cons_succ]
      refine wpAnyH_take (i := 7) (oi := { dst := some 20, op := Op.move (Operand.tmp 4), type := 3, pos := _, after := _, guard := none }) (v := ?_) rfl (by kernel_rfl) (by kernel_rfl) (by kernel_rfl) (fun _ _ _ h => h) (Or.inl ⟨by rfl, ?_⟩) (by assumption) ?_
      rotate_left
      · intro wS hSw; (try dsimp only at hSw); go_simp; first | done | with_reducible rfl
      try simp only [Act.put, List.setIfInBounds_toArray, List.set_cons_zero, List.set_cons_succ]
      refine wpAnyH_take (i := 8) (oi := { dst := some 21, op := Op.indexAddr 22 (Operand.tmp 19) (Operand.tmp 20), type := 0, pos := _, after := _, guard := none }) (v := ?_) rfl (by kernel_rfl) (by kernel_rfl) (by kernel_rfl) (fun _ _ _ h => h) (Or.inl ⟨by rfl, ?_⟩) (by assumption) ?_
      rotate_left
      · intro wS hSw; (try dsimp only at hSw); go_simp; first | done | with_reducible rfl
      try simp only [Act.put, List.setIfInBounds_toArray, List.set_cons_zero, List.set_cons_succ]
      refine wpAnyH_take (i := 9) (oi := { dst := some 22, op := Op.fieldAddr 30 (Operand.tmp 21) 0, type := 0, pos := _, after := _, guard := none }) (v := ?_) rfl (by kernel_rfl) (by kernel_rfl) (by kernel_rfl) (fun _ _ _ h => h) (Or.inl ⟨by rfl, ?_⟩) (by assumption) ?_
      rotate_left
      · intro wS hSw; (try dsimp only at hSw); go_simp; first | done | with_reducible rfl
      try simp only [Act.put, List.setIfInBounds_toArray, List.set_cons_zero, List.set_cons_succ]
      refine wpAnyH_take (i := 10) (oi := { dst := some 23, op := Op.load 3 (Operand.tmp 22), type := 3, pos := _, after := _, guard := none }) (v := ?_) rfl (by kernel_rfl) (by kernel_rfl) (by kernel_rfl) (fun _ _ _ h => h) (Or.inl ⟨by rfl, ?_⟩) (by assumption) ?_
      rotate_left
      · intro wS hSw; (try dsimp only at hSw); go_simp; first | done | with_reducible rfl
      try simp only [Act.put, List.setIfInBounds_toArray, List.set_cons_zero, List.set_cons_succ]
      refine wpAnyH_take (i := 11) (oi := { dst := some 24, op := Op.build 50 #[(0, Operand.tmp 18), (1, Operand.tmp 23)], type := 50, pos := _, after := _, guard := none }) (v := ?_) rfl (by kernel_rfl) (by kernel_rfl) (by kernel_rfl) (fun _ _ _ h => h) (Or.inl ⟨by rfl, ?_⟩) (by assumption) ?_
      rotate_left
      · intro wS hSw; (try dsimp only at hSw); go_simp; first | done | with_reducible rfl
      try simp only [Act.put, List.setIfInBounds_toArray, List.set_cons_zero, List.set_cons_succ]
      have hB7 : Below w.heap.size w (wr.alloc (.cells #[.int .i64 dd, .int .i64 ii] 50)).drew := (hbw.alloc hbw.size _).drew
      have ho7 : (wr.alloc (.cells #[.int .i64 dd, .int .i64 ii] 50)).drew.ownsRow w.heap.size 50 2 qv j (flat (keysA (xs.take j))) := own_laterF HO.out (((Below.refl _ _).alloc (Nat.le_refl _) _).drew)
      have hone : Its (wr.alloc (.cells #[.int .i64 dd, .int .i64 ii] 50)).drew (.slice (some ⟨wr.heap.size, 0, none⟩) 1 1) [(dd, ii)] := (Its.one wr dd ii).later (Below.refl _ _).drew
      refine wpAnyH_ready (rs := [12]) (by kernel_rfl) (by simp) ?_
      refine AllReadyH.cons (o := { dst := some 25, op := Op.buildSlice 48 1 #[(0, Operand.tmp 24)], type := 48, pos := _, after := _, guard := none }) rfl (fun K hK => ?_) AllReadyH.nil
      go_simp
      refine hK.out _ _ ?_ (fun hHeld => ?_)
      · exact HCW.out _ hB7
      clear hK K
      try simp only [Act.put, List.setIfInBounds_toArray, List.set_cons_zero, List.set_cons_succ]
      refine wpAnyH_ready (rs := [13]) (by kernel_rfl) (by simp) ?_
      refine AllReadyH.cons (o := { dst := some 26, op := Op.call { callee := Callee.builtin Builtin.append, args := #[Operand.tmp 13, Operand.tmp 25], argTypes := #[48, 48] }, type := 48, pos := _, after := _, guard := none }) rfl (fun K hK => ?_) AllReadyH.nil
      refine step_append_its rfl _ _ 48 Try.underlying48 rfl w.heap.size qv ⟨wr.heap.size, 0, none⟩ 1 1 j (keysA (xs.take j)) [(dd, ii)] rfl ho7 rfl hone (by simp; omega) hB7.size ?_
      intro v3 w3 hown3 hb3
      have HB3 : Hid (Below w.heap.size w w3) := hB7.trans hb3
      refine hK.out _ _ ?_ (fun hHeld => ?_)
      · exact HCW.out _ HB3.out
      clear hK K
      try simp only [Act.put, List.setIfInBounds_toArray, List.set_cons_zero, List.set_cons_succ]
      refine wpAnyH_take (i := 14) (oi := { dst := some 3, op := Op.assign (Operand.tmp 26), type := 48, pos := _, after := _, guard := none }) (v := ?_) rfl (by kernel_rfl) (by kernel_rfl) (by kernel_rfl) (fun _ _ _ h => h) (Or.inl ⟨by rfl, ?_⟩) (by assumption) ?_
      rotate_left
      · intro wS hSw; (try dsimp only at hSw); go_simp; first | done | with_reducible rfl
      try simp only [Act.put, List.setIfInBounds_toArray, List.set_cons_zero, List.set_cons_succ]
      refine wpAnyH_done (by kernel_rfl) ?_ _
      have HN : Hid (w3.ownsRow w.heap.size 50 2 v3 (j + 1) (flat (keysA (xs.take (j + 1))))) := by
        show World.ownsRow _ _ _ _ _ _ _
        rw [HK.out]
        exact hown3
      clear hown3 hb3 hone ho7 hB7 HO hbw
      go_wp2_with fail
      go_roundw
      case rel => exact ⟨j + 1, _, rfl, by omega, by go_num, HN.out, HB3.out⟩
      case measure => simp [intOf]; omega
    · obtain rfl : j = xs.length := by omega
      have HI : Hid (Its wr qv (keysA xs)) := by
        have h := HO.out
        rw [List.take_length] at h
        exact (Its.own h).1
      have HB : Hid (Below w.heap.size w wr) := hbw
      have hkl : (keysA xs).length = xs.length := keysA_len xs
      clear HO hbw h5
      go_wp2_with fail
      refine (rsort_any (keysA xs) qv wr HI.out (by omega)).mono ?_
      rintro e w2 ⟨u, rfl, hu, hb2⟩
      have HB2 : Hid (Below w.heap.size w w2) := HB.out.trans (hb2.mono HB.out.size)
      have hlo : (ordA xs).length = xs.length := ordA_len xs
      rw [← ordA_keys] at hu
      obtain ⟨qa, qc, rfl, u1, u2, _, u3⟩ := hu
      have hkl2 : (keysA (ordA xs)).length = xs.length := by rw [keysA_len, hlo]
      rw [hkl2] at u1
      rw [hkl2]
      have HQ : Hid (∀ i, i < xs.length → ∃ b o, qa = some ⟨b, o, none⟩ ∧ w2.cell? ⟨b, o + i * 2 + 1, none⟩ = some (.int .i64 (atA (ordA xs) i).id)) := fun i hi => by
        obtain ⟨b, o, e, h4⟩ := u3 (by intro e; rw [e] at hkl2; simp at hkl2; omega)
        have h := (h4 i (by omega)).2
        rw [atA_key (by omega)] at h
        exact ⟨b, o, e, h⟩
      clear HB hb2 u3 HI
      go_wp2_with fail
      go_loopw [5, 6] (fun g i wr => ∃ (j : Nat) (gv : Value), gv = g ∧ j ≤ xs.length ∧ i = .int .i64 j ∧ Hid (OwnN wr w2.heap.size gv (idsA ((ordA xs).take j))) ∧ Below w2.heap.size w2 wr) (fun _ i _ => ((xs.length : Int) - intOf i).toNat)
      case atStart => exact ⟨0, _, rfl, by omega, rfl, OwnN.nil _ _, Below.refl _ _⟩
      case round =>
        obtain ⟨j, gv, rfl, hj, rfl, HG, hbw⟩ := hrel
        by_cases hjl : (j : Int) < xs.length
        · obtain ⟨b, o, rfl, k1⟩ := HQ.out j (by omega)
          have c1 := cell_later hbw k1
          have HX : Hid (idsA ((ordA xs).take j) ++ [(atA (ordA xs) j).id] = idsA ((ordA xs).take (j + 1))) := idsA_next (by omega)
          have hgl : (idsA ((ordA xs).take j)).length = j := by rw [idsA_len, List.length_take]; omega
          clear k1
          obtain ⟨x, hx'⟩ : ∃ x, (atA (ordA xs) j).id = x := ⟨_, rfl⟩
          rw [hx'] at c1 HX
          clear hx'
          have HG3 : Hid (OwnN (wr.alloc (.cells #[.int .i64 x] 3)) w2.heap.size gv (idsA ((ordA xs).take j))) := HG.out.later ((Below.refl _ _).alloc (Nat.le_refl _) _)
          have HB4 : Hid (Below w2.heap.size w2 (wr.alloc (.cells #[.int .i64 x] 3))) := hbw.alloc hbw.size _
          have s4 := hbw.size
          clear HG hbw
          go_wp2_with (first
            | (at_builtin; refine wpList_append_own_at _ rfl _ _ 25 rfl w2.heap.size 3 i0 _ 1 8 Try.underlying25 hi hz0 hz1 hz2 rfl (by decide) gv _ _ rfl HG3.out ⟨wr.heap.size, 0, none⟩ 1 1 [.int .i64 x] rfl rfl (cell_one_new _ _ _) (by intro u hu; simp at hu; rw [hu]; rfl) (by unfold maxLen; omega) (by omega) (by simp; omega) ?_; intro v' w4 hown4 hg4 _ hat4))
          have HN : Hid (OwnN w4 w2.heap.size v' (idsA ((ordA xs).take (j + 1)))) := by
            show OwnN _ _ _ _
            rw [← HX.out]
            unfold OwnN
            rw [List.length_append, ivs_app]
            exact hown4
          have HB5 : Hid (Below w2.heap.size w2 w4) := HB4.out.grown hg4 HB4.out.size (fun k hk => HG3.out.low k hk)
          clear HG3 HB4 hown4 hg4 hat4 HX c1
          go_wp2_with fail
          go_roundw
          case rel => exact ⟨j + 1, _, rfl, by omega, by go_num, HN.out, HB5.out⟩
          case measure => simp [intOf]; omega
        · obtain rfl : j = xs.length := by omega
          have HE : Hid (OwnN wr w.heap.size gv (idsA (ordA xs))) := by
            have h := HG.out
            rw [← hlo, List.take_length] at h
            unfold OwnN at h
            exact own_low h HB2.out.size
          have HB5 : Hid (Below w.heap.size w wr) := HB2.out.trans (hbw.mono HB2.out.size)
          clear HG hbw
          go_wp2_with fail
          go_ret
          exact ⟨_, rfl, HE.out, HB5.out⟩
end Go.Proofs.Ytjaaabliefcgaaa
/- The document's own Pick, in numbers: who is left, who runs. -/
namespace Go.Proofs.Ytjaaabliefcgaaa
open Go.RowKit Go.Maps Go.Shelf

/-- Those that are not gone. -/
def kpA (gs : List Int) (L : List Ap) : List Ap := L.filter fun a => !decide (a.id ∈ gs)
theorem kpA_mem {gs : List Int} {L : List Ap} {a : Ap} : a ∈ kpA gs L ↔ a ∈ L ∧ a.id ∉ gs := by simp [kpA, List.mem_filter]
theorem kpA_nil (L : List Ap) : kpA [] L = L := by simp [kpA]
theorem kpA_add {gs : List Int} {P : List Ap} {a : Ap} (h : a.id ∉ gs) : kpA gs (P ++ [a]) = kpA gs P ++ [a] := by
  simp [kpA, List.filter_append, h]
theorem kpA_off {gs : List Int} {P : List Ap} {a : Ap} (h : a.id ∉ idsA P) : kpA (gs ++ [a.id]) (P ++ [a]) = kpA gs P := by
  unfold kpA
  rw [List.filter_append]
  have e1 : [a].filter (fun b => !decide (b.id ∈ gs ++ [a.id])) = [] := by simp
  rw [e1, List.append_nil]
  apply List.filter_congr
  intro b hb
  have hne : b.id ≠ a.id := fun e => h (by rw [← e]; exact List.mem_map_of_mem hb)
  simp [hne]
structure PkR (L : List Ap) (now : Int) (r0 : Ap) (P : List Ap) (cur : Int) (rest left : List Ap) (gs : List Int) (r : Ap) : Prop where
  run : runA now r0 P = (r, gs)
  rest : rest = kpA gs L
  left : left = kpA gs P
  cur : (r = apZ ∧ cur ∉ idsA L) ∨ (r ∈ L ∧ r ≠ apZ ∧ cur = r.id ∧ r.id ∉ gs)
  gz : r = apZ → gs = []
  sub : ∀ x ∈ gs, x ∈ idsA P
theorem idsA_snoc (P : List Ap) (a : Ap) : idsA (P ++ [a]) = idsA P ++ [a.id] := by unfold idsA; rw [List.map_append]; rfl
theorem runA_snoc (now : Int) (r0 : Ap) (P : List Ap) (a : Ap) : runA now r0 (P ++ [a]) = stpA now (runA now r0 P) a := by unfold runA; rw [List.foldl_append]; rfl
/-- What each round has. -/
structure RdA (L P : List Ap) (a : Ap) : Prop where
  nodup : (idsA L).Nodup
  nz : ∀ b ∈ L, b ≠ apZ
  all : ∃ M, P ++ a :: M = L
theorem RdA.mem {L P : List Ap} {a : Ap} (h : RdA L P a) : a ∈ L := by obtain ⟨M, e⟩ := h.all; rw [← e]; simp
theorem RdA.fresh {L P : List Ap} {a : Ap} (h : RdA L P a) : a.id ∉ idsA P := by
  obtain ⟨M, e⟩ := h.all
  have hd := h.nodup
  rw [← e] at hd
  unfold idsA at hd ⊢
  rw [List.map_append, List.map_cons, List.nodup_append] at hd
  intro hm
  exact hd.2.2 _ hm _ (List.mem_cons_self ..) rfl
theorem RdA.of {L : List Ap} {j : Nat} (hd : (idsA L).Nodup) (hz : ∀ b ∈ L, b ≠ apZ) (hj : j < L.length) : RdA L (L.take j) (atA L j) :=
  ⟨hd, hz, _, by rw [← dropA_next hj, List.take_append_drop]⟩
section
variable {L P : List Ap} {now cur : Int} {r0 r a : Ap} {rest left : List Ap} {gs : List Int}
theorem PkR.go (h : PkR L now r0 P cur rest left gs r) (hr : RdA L P a) : a.id ∉ gs := fun hm => hr.fresh (h.sub _ hm)
theorem PkR.more (h : PkR L now r0 P cur rest left gs r) : ∀ x ∈ gs, x ∈ idsA (P ++ [a]) := fun x hx => by rw [idsA_snoc]; exact List.mem_append_left _ (h.sub x hx)
theorem PkR.stay (h : PkR L now r0 P cur rest left gs r) (hr : RdA L P a) (hc : a.id = cur ∨ 0 < laxA a now) : PkR L now r0 (P ++ [a]) cur rest (left ++ [a]) gs r := by
  refine ⟨?_, h.rest, by rw [kpA_add (h.go hr), ← h.left], h.cur, h.gz, h.more⟩
  rw [runA_snoc, h.run]
  unfold stpA
  rw [if_pos]
  rcases hc with hc | hc
  · left
    rcases h.cur with ⟨_, h2⟩ | ⟨h1, h2, h3, _⟩
    · exact absurd (by rw [← hc]; exact List.mem_map_of_mem hr.mem) h2
    · exact eqA_iff.2 (key_same hr.nodup hr.mem h1 (hc.trans h3))
  · exact .inr hc
theorem PkR.first (h : PkR L now r0 P cur rest left gs r) (hr : RdA L P a) (h2 : ¬ 0 < laxA a now) (hc : ∀ t, t < rest.length → (atA rest t).id ≠ cur) : PkR L now r0 (P ++ [a]) a.id rest (left ++ [a]) gs a := by
  have hz : r = apZ := by
    rcases h.cur with ⟨h3, _⟩ | ⟨h3, _, h5, h6⟩
    · exact h3
    · exfalso
      have hm : r ∈ rest := by rw [h.rest]; exact kpA_mem.2 ⟨h3, h6⟩
      obtain ⟨t, ht, e⟩ := List.getElem_of_mem hm
      exact hc t ht (by rw [atA_of (List.getElem?_eq_getElem ht), e, h5])
  refine ⟨?_, h.rest, by rw [kpA_add (h.go hr), ← h.left], .inr ⟨hr.mem, hr.nz _ hr.mem, rfl, h.go hr⟩, fun e => absurd e (hr.nz _ hr.mem), h.more⟩
  rw [runA_snoc, h.run]
  unfold stpA
  have e1 : eqA a r = false := by rw [hz]; exact eqA_no.2 (hr.nz _ hr.mem)
  rw [if_neg (by simp only [e1]; simp; omega), if_pos]
  unfold yldB
  rw [hz, eqA_self, Bool.true_or]
theorem PkR.runner (h : PkR L now r0 P cur rest left gs r) (hd : (idsA L).Nodup) {c : Nat} (hc : AtA rest cur c) : atA rest c = r ∧ r ≠ apZ ∧ r.id = cur := by
  have hm : atA rest c ∈ L := by
    have := atA_mem hc.lt
    have hx := h.rest
    generalize atA rest c = b at *
    rw [hx] at this
    exact (kpA_mem.1 this).1
  rcases h.cur with ⟨_, h2⟩ | ⟨h1, h2, h3, _⟩
  · exact absurd (by rw [← hc.is]; exact List.mem_map_of_mem hm) h2
  · exact ⟨key_same hd hm h1 (hc.is.trans h3), h2, h3.symm⟩
theorem PkR.not (h : PkR L now r0 P cur rest left gs r) (hd : (idsA L).Nodup) {c : Nat} (hc : AtA rest cur c) (h1 : a.id ≠ cur) (h2 : ¬ 0 < laxA a now) : runA now r0 (P ++ [a]) = if bt a.v (atA rest c).v 4 = true then (a, gs) else (r, gs ++ [a.id]) := by
  obtain ⟨e1, e2, e3⟩ := h.runner hd hc
  rw [runA_snoc, h.run, e1]
  unfold stpA
  have e4 : eqA a r = false := eqA_no.2 (fun e => h1 (by rw [e, e3]))
  rw [if_neg (by simp only [e4]; simp; omega)]
  unfold yldB
  rw [eqA_no.2 e2, Bool.false_or]
theorem PkR.yes (h : PkR L now r0 P cur rest left gs r) (hr : RdA L P a) (h1 : a.id ≠ cur) (h2 : ¬ 0 < laxA a now) {c : Nat} (hc : AtA rest cur c) (hb : bt a.v (atA rest c).v 4 = true) : PkR L now r0 (P ++ [a]) a.id rest (left ++ [a]) gs a := by
  refine ⟨?_, h.rest, by rw [kpA_add (h.go hr), ← h.left], .inr ⟨hr.mem, hr.nz _ hr.mem, rfl, h.go hr⟩, fun e => absurd e (hr.nz _ hr.mem), h.more⟩
  rw [h.not hr.nodup hc h1 h2, if_pos hb]
theorem PkR.no (h : PkR L now r0 P cur rest left gs r) (hr : RdA L P a) (h1 : a.id ≠ cur) (h2 : ¬ 0 < laxA a now) {c : Nat} (hc : AtA rest cur c) (hb : bt a.v (atA rest c).v 4 = false) : PkR L now r0 (P ++ [a]) cur (kpA (gs ++ [a.id]) L) left (gs ++ [a.id]) r := by
  obtain ⟨_, e2, e3⟩ := h.runner hr.nodup hc
  refine ⟨by rw [h.not hr.nodup hc h1 h2, if_neg (by rw [hb]; decide)], rfl, by rw [kpA_off hr.fresh]; exact h.left, ?_, fun e => absurd e e2, fun x hx => ?_⟩
  · rcases h.cur with ⟨h3, _⟩ | ⟨h3, h4, h5, h6⟩
    · exact absurd h3 e2
    · refine .inr ⟨h3, h4, h5, fun hm => ?_⟩
      rcases List.mem_append.1 hm with hm | hm
      · exact h6 hm
      · rw [List.mem_singleton] at hm
        exact h1 (hm.symm.trans e3)
  · rw [idsA_snoc]
    rcases List.mem_append.1 hx with hx | hx
    · exact List.mem_append_left _ (h.sub x hx)
    · exact List.mem_append_right _ hx
theorem PkR.has (h : PkR L now r0 P cur rest left gs r) (hr : RdA L P a) (hn : ∀ t, t < rest.length → (atA rest t).id ≠ a.id) : False := by
  have hm : a ∈ rest := by rw [h.rest]; exact kpA_mem.2 ⟨hr.mem, h.go hr⟩
  obtain ⟨t, ht, e⟩ := List.getElem_of_mem hm
  exact hn t ht (by rw [atA_of (List.getElem?_eq_getElem ht), e])
theorem ids_kp (gs : List Int) (hd : (idsA L).Nodup) : (idsA (kpA gs L)).Nodup := by
  unfold idsA kpA at *
  exact hd.sublist (List.filter_sublist.map _)
/-- Without the one at k. -/
theorem kp_less {k : Nat} {x : Int} (hd : (idsA L).Nodup) (hk : AtA (kpA gs L) x k) : (kpA gs L).take k ++ (kpA gs L).drop (k + 1) = kpA (gs ++ [x]) L := by
  have e0 : kpA (gs ++ [x]) L = (kpA gs L).filter fun b => !decide (b.id = x) := by
    unfold kpA
    rw [List.filter_filter]
    apply List.filter_congr
    intro b _
    by_cases c1 : b.id ∈ gs <;> by_cases c2 : b.id = x <;> simp [c1, c2]
  rw [e0]
  have hdk := ids_kp gs hd
  generalize kpA gs L = R at *
  have e1 : R = R.take k ++ atA R k :: R.drop (k + 1) := by rw [← dropA_next hk.lt, List.take_append_drop]
  conv => rhs; rw [e1]
  rw [List.filter_append, List.filter_cons]
  have e2 : (!decide ((atA R k).id = x)) = false := by simp [hk.is]
  rw [e2]
  simp only [Bool.false_eq_true, if_false]
  congr 1
  · symm
    rw [List.filter_eq_self]
    intro b hb
    obtain ⟨t, ht, e⟩ := List.getElem_of_mem hb
    rw [List.length_take] at ht
    rw [List.getElem_take] at e
    have := hk.not t (by omega)
    rw [atA_of (List.getElem?_eq_getElem (show t < R.length by omega)), e] at this
    simpa using this
  · symm
    rw [List.filter_eq_self]
    intro b hb
    have hne : b.id ≠ x := fun e => by
      rw [e1] at hdk
      unfold idsA at hdk
      rw [List.map_append, List.map_cons, List.nodup_append, List.nodup_cons] at hdk
      exact hdk.2.1.1 (by rw [hk.is, ← e]; exact List.mem_map_of_mem hb)
    simpa using hne
theorem PkR.start {X : List Ap} (hd : (idsA X).Nodup) (hz : ∀ b ∈ X, b ≠ apZ) : PkR (ordA X) now (lkA X X.length cur) [] cur (ordA X) [] [] (lkA X X.length cur) := by
  refine ⟨rfl, (kpA_nil _).symm, rfl, ?_, fun _ => rfl, fun x hx => by simp at hx⟩
  by_cases c : cur ∈ idsA X
  · obtain ⟨b, hb, e⟩ := List.mem_map.1 c
    have e2 : lkA X X.length cur = b := by rw [← e]; exact lkA_mem hd hb
    rw [e2]
    exact .inr ⟨(ordA_perm X).mem_iff.2 hb, hz b hb, e.symm, by simp⟩
  · exact .inl ⟨lkA_not c _ (Nat.le_refl _), fun h => c ((ids_perm (ordA_perm X)).mem_iff.1 h)⟩
theorem PkR.some (h : PkR L now r0 L cur rest left gs r) {k : Nat} (hk : AtA left cur k) : r ≠ apZ ∧ r.id = cur := by
  have hm : atA left k ∈ L := by
    have := atA_mem hk.lt
    have hx := h.left
    generalize atA left k = b at *
    rw [hx] at this
    exact (kpA_mem.1 this).1
  rcases h.cur with ⟨_, h2⟩ | ⟨_, h2, h3, _⟩
  · exact absurd (by rw [← hk.is]; exact List.mem_map_of_mem hm) h2
  · exact ⟨h2, h3.symm⟩
theorem PkR.none (h : PkR L now r0 L cur rest left gs r) (hn : ∀ t, t < left.length → (atA left t).id ≠ cur) : r = apZ ∧ left = L := by
  rcases h.cur with ⟨h1, _⟩ | ⟨h1, _, h3, h4⟩
  · refine ⟨h1, ?_⟩
    rw [h.left, h.gz h1, kpA_nil]
  · exfalso
    have hm : r ∈ left := by rw [h.left]; exact kpA_mem.2 ⟨h1, h4⟩
    obtain ⟨t, ht, e⟩ := List.getElem_of_mem hm
    exact hn t ht (by rw [atA_of (List.getElem?_eq_getElem ht), e, h3])
end
theorem ord_twice {X : List Ap} (hd : (idsA X).Nodup) : ordA (ordA X) = ordA X := (ord_uniq (ids_ord hd) (ordA_srtd X) (List.Perm.refl _)).symm

/-- Rows of the call's own, apart from each other. -/
structure Sep (w : World) (B : Nat) (gv lv rv av : Value) (gs : List Int) (left rest L : List Ap) : Prop where
  g : OwnN w B gv gs
  l : OwnA w B lv left
  r : OwnA w B rv rest
  a : OwnA w B av L
  lr : rv.ownBlock = none ∨ rv.ownBlock ≠ lv.ownBlock
  la : av.ownBlock = none ∨ av.ownBlock ≠ lv.ownBlock
section
variable {w w' : World} {B : Nat} {gv lv rv av gv' lv' rv' : Value} {gs gs' : List Int} {left rest L left' rest' : List Ap}
theorem Sep.later (h : Sep w B gv lv rv av gs left rest L) (hb : Below w.heap.size w w') : Sep w' B gv lv rv av gs left rest L :=
  ⟨h.g.later hb, h.l.later hb, h.r.later hb, h.a.later hb, h.lr, h.la⟩
theorem Sep.gone (h : Sep w B gv lv rv av gs left rest L) (hg : w.grownBy w' gv.ownBlock) (hn : OwnN w' B gv' gs') : Sep w' B gv' lv rv av gs' left rest L := by
  have k : ∀ {v : Value} {X : List Ap}, OwnA w B v X → OwnA w' B v X := fun {v X} ha => by
    have h2 := h.g
    unfold OwnA at ha ⊢
    unfold OwnN at h2
    exact ha.kept hg (rows_ne ha h2 (by decide))
  exact ⟨hn, k h.l, k h.r, k h.a, h.lr, h.la⟩
theorem Sep.more (h : Sep w B gv lv rv av gs left rest L) (hg : w.grownBy w' lv.ownBlock) (hn : OwnA w' B lv' left') (ho : lv'.ownBlock = lv.ownBlock ∨ lv'.ownBlock = some w.heap.size) : Sep w' B gv lv' rv av gs left' rest L := by
  have ne : ∀ {v : Value} {X : List Ap}, OwnA w B v X → (v.ownBlock = none ∨ v.ownBlock ≠ lv.ownBlock) → (v.ownBlock = none ∨ v.ownBlock ≠ lv'.ownBlock) := fun {v X} ha h1 => by
    cases c : v.ownBlock with
    | none => exact .inl rfl
    | some k =>
      unfold OwnA at ha
      have hk := (ha.lt k c).2
      refine .inr ?_
      rw [c] at h1
      rcases ho with e | e
      · rw [e]
        rcases h1 with h1 | h1
        · exact absurd h1 (by simp)
        · exact h1
      · rw [e]
        intro e2
        have : k = w.heap.size := Option.some.inj e2
        omega
  have h1 := h.l
  have h2 := h.r
  have h3 := h.a
  have h4 := h.g
  unfold OwnA at h1 h2 h3
  unfold OwnN at h4
  refine ⟨?_, hn, ?_, ?_, ne h.r h.lr, ne h.a h.la⟩
  · unfold OwnN; exact h4.kept hg (rows_ne h4 h1 (by decide))
  · unfold OwnA; exact h2.kept hg h.lr
  · unfold OwnA; exact h3.kept hg h.la
theorem Sep.anew (h : Sep w B gv lv rv av gs left rest L) (hB : B ≤ w.heap.size) (hb : Below w.heap.size w w') (hn : OwnA w' w.heap.size rv' rest') : Sep w' B gv lv rv' av gs left rest' L := by
  refine ⟨h.g.later hb, h.l.later hb, ?_, h.a.later hb, ?_, h.la⟩
  · unfold OwnA at hn ⊢; exact own_low hn hB
  · cases c : rv'.ownBlock with
    | none => exact .inl rfl
    | some k =>
      refine .inr (fun e => ?_)
      have h1 := h.l
      unfold OwnA at h1 hn
      have h2 := (hn.lt k c).1
      have h3 := (h1.lt k e.symm).2
      omega
end
end Go.Proofs.Ytjaaabliefcgaaa
