/- Walks: find, differ, ordered, May. -/
import Derived.Test.YtpefigaaeiaioaaH11
import Derived.Deep.RegionWith
namespace Go.Proofs.Ytpefigaaeiaioaa
open Go.RowKit
set_option linter.unusedVariables false

theorem below_next {B : Nat} {w w1 w2 : World} (h : Below B w w1) (k : Below w1.heap.size w1 w2) (hs : B ≤ w1.heap.size) : Below B w w2 := h.trans (k.mono hs)

/-- Where the first item of an ID stands: -1, if there is none. -/
def fnd (xs : List (Int × Int)) (id : Int) : Int := match xs.findIdx? (fun x => x.2 == id) with
  | some i => (i : Int)
  | none => -1
theorem fnd_some {xs : List (Int × Int)} {id : Int} {j : Nat} (hj : j < xs.length) (h : (atI xs j).2 = id) (hk : ∀ k, k < j → (atI xs k).2 ≠ id) : fnd xs id = j := by
  have e : ∀ k (hk : k < xs.length), xs[k] = atI xs k := fun k hk => by simp [atI, List.getD, hk]
  have : xs.findIdx? (fun x => x.2 == id) = some j := by
    rw [List.findIdx?_eq_some_iff_getElem]
    refine ⟨hj, by rw [e j hj]; simpa using h, fun k hkj => ?_⟩
    rw [e k (by omega)]; simpa using hk k hkj
  unfold fnd; rw [this]
theorem fnd_none {xs : List (Int × Int)} {id : Int} (hk : ∀ k, k < xs.length → (atI xs k).2 ≠ id) : fnd xs id = -1 := by
  have : xs.findIdx? (fun x => x.2 == id) = none := by
    rw [List.findIdx?_eq_none_iff]
    intro x hx
    obtain ⟨k, hk'⟩ := List.getElem?_of_mem hx
    have := hk k (List.getElem?_eq_some_iff.1 hk').1
    rw [atI_of hk'] at this; simpa using this
  unfold fnd; rw [this]
theorem fnd_cases (xs : List (Int × Int)) (id : Int) : (∃ j : Nat, fnd xs id = j ∧ j < xs.length ∧ (atI xs j).2 = id ∧ ∀ k, k < j → (atI xs k).2 ≠ id) ∨ (fnd xs id = -1 ∧ ∀ k, k < xs.length → (atI xs k).2 ≠ id) := by
  by_cases h : ∃ k, k < xs.length ∧ (atI xs k).2 = id
  · left
    have e : ∀ k (hk : k < xs.length), xs[k] = atI xs k := fun k hk => by simp [atI, List.getD, hk]
    cases hf : xs.findIdx? (fun x => x.2 == id) with
    | none =>
      obtain ⟨k, hk, hid⟩ := h
      rw [List.findIdx?_eq_none_iff] at hf
      have := hf _ (atI_mem hk)
      simp [hid] at this
    | some j =>
      have hf2 := hf
      rw [List.findIdx?_eq_some_iff_getElem] at hf2
      obtain ⟨hj, h1, h2⟩ := hf2
      refine ⟨j, by unfold fnd; rw [hf], hj, by rw [← e j hj]; simpa using h1, fun k hk => ?_⟩
      have := h2 k hk
      rw [e k (by omega)] at this; simpa using this
  · right
    have h' : ∀ k, k < xs.length → (atI xs k).2 ≠ id := fun k hk e => h ⟨k, hk, e⟩
    exact ⟨fnd_none h', h'⟩

set_option maxHeartbeats 1000000 in
set_option maxRecDepth 100000 in
theorem find_any (xs : List (Int × Int)) (v : Value) (id : Int) (w : World) (h : Its w v xs) (hx : xs.length ≤ 1000) :
    Calls Try.prog 24 #[v, .int .i64 id] w fun e w' => e = .returned (.int .i64 (fnd xs id)) ∧ Below w.heap.size w w' := by
  obtain ⟨a, cap, rfl, h1, h2, h0, h3⟩ := h
  go_enter Try.func24, Try.ntmps24
  go_wp2_with fail
  go_loopw [9] (fun i wr => ∃ (j : Nat), j ≤ xs.length ∧ i = .int .i64 j ∧ Below w.heap.size w wr ∧ Hid (∀ k, k < j → (atI xs k).2 ≠ id)) (fun i _ => ((xs.length : Int) - intOf i).toNat)
  case atStart => exact ⟨0, by omega, rfl, Below.refl _ _, fun k hk => by omega⟩
  case round =>
    obtain ⟨j, hj, rfl, hbw, HK⟩ := hrel
    have s1 := hbw.size
    by_cases hlt : (j : Int) < xs.length
    · obtain ⟨b, o, rfl, h4⟩ := h3 (by intro e; rw [e, List.length_nil] at hlt; omega)
      obtain ⟨c0, c1⟩ := h4 j (by omega)
      have c0 := cell_later hbw c0
      have c1 := cell_later hbw c1
      clear h4 h3
      generalize hxj : atI xs j = x at *
      have HX : Hid (atI xs j = x) := hxj
      clear hxj
      by_cases ce : x.2 = id
      · have HF : Hid (fnd xs id = j) := fnd_some (by omega) (by rw [HX.out]; exact ce) HK.out
        go_wp2_with fail
        go_ret
        exact ⟨ret_i HF.out.symm, hbw.alloc s1 _⟩
      · go_wp2_with fail
        go_roundw
        case rel =>
          refine ⟨j + 1, by omega, by go_num, hbw.alloc s1 _, fun k hk => ?_⟩
          rcases (show k < j ∨ k = j by omega) with h | rfl
          · exact HK.out k h
          · rw [HX.out]; exact ce
        case measure => simp [intOf]; omega
    · obtain rfl : j = xs.length := by omega
      have HF : Hid (fnd xs id = -1) := fnd_none HK.out
      go_wp2_with fail
      go_ret
      exact ⟨ret_i HF.out.symm, hbw⟩

theorem Its.front {w : World} {a : Option Addr} {n cap i : Nat} {xs : List (Int × Int)} (h : Its w (.slice a n cap) xs) (hi : i ≤ xs.length) : Its w (.slice a i cap) (xs.take i) := by
  obtain ⟨a', cap', e, h1, h2, h0, h3⟩ := h
  simp only [Value.slice.injEq] at e
  obtain ⟨rfl, rfl, rfl⟩ := e
  have hl : (xs.take i).length = i := by simp; omega
  refine ⟨a, cap, by rw [hl], by rw [hl]; omega, h2, h0, fun hx => ?_⟩
  obtain ⟨b, o, rfl, h4⟩ := h3 (by intro e; subst e; simp at hx)
  refine ⟨b, o, rfl, fun k hk => ?_⟩
  rw [hl] at hk
  rw [atI_take hk]; exact h4 k (by omega)

/-- No two items are of one ID. -/
def difB (xs : List (Int × Int)) : Bool := decide (∀ i, i < xs.length → fnd (xs.take i) (atI xs i).2 < 0)
/-- None is ahead of the one that stands ahead of it. -/
def ordB (xs : List (Int × Int)) : Bool := decide (∀ i, i < xs.length → 0 < i → ahd (atI xs i) (atI xs (i - 1)) = false)
def mayB (xs : List (Int × Int)) : Bool := decide (xs.length ≤ 40) && difB xs && ordB xs

set_option maxHeartbeats 1000000 in
set_option maxRecDepth 100000 in
theorem differ_any (xs : List (Int × Int)) (v : Value) (w : World) (h : Its w v xs) (hx : xs.length ≤ 1000) :
    Calls Try.prog 37 #[v] w fun e w' => e = .returned (.bool (difB xs)) ∧ Below w.heap.size w w' := by
  have hits := id h
  obtain ⟨a, cap, rfl, h1, h2, h0, h3⟩ := h
  have HI : Hid (Its w (.slice a xs.length cap) xs) := hits
  clear hits
  go_enter Try.func37, Try.ntmps37
  go_wp2_with fail
  go_loopw [7] (fun i wr => ∃ (j : Nat), j ≤ xs.length ∧ i = .int .i64 j ∧ Below w.heap.size w wr ∧ Hid (∀ i, i < j → fnd (xs.take i) (atI xs i).2 < 0)) (fun i _ => ((xs.length : Int) - intOf i).toNat)
  case atStart => exact ⟨0, by omega, rfl, Below.refl _ _, fun k hk => by omega⟩
  case round =>
    obtain ⟨j, hj, rfl, hbw, HK⟩ := hrel
    have s1 := hbw.size
    by_cases hlt : (j : Int) < xs.length
    · obtain ⟨b, o, rfl, h4⟩ := h3 (by intro e; rw [e, List.length_nil] at hlt; omega)
      obtain ⟨c0, c1⟩ := h4 j (by omega)
      have c0 := cell_later hbw c0
      have c1 := cell_later hbw c1
      clear h4 h3
      generalize hxj : atI xs j = x at *
      have HX : Hid (atI xs j = x) := hxj
      clear hxj
      have hfc : ∀ W, Below wr.heap.size wr W → Calls Try.prog 24 #[.slice (some ⟨b, o, none⟩) j cap, .int .i64 x.2] W fun e w' => e = .returned (.int .i64 (fnd (xs.take j) x.2)) ∧ Below W.heap.size W w' := fun W hW =>
        find_any (xs.take j) _ x.2 W (((HI.out.later hbw).later hW).front (by omega)) (by simp; omega)
      generalize hf : fnd (xs.take j) x.2 = f at *
      have HF : Hid (fnd (xs.take j) x.2 = f) := hf
      clear hf
      by_cases cf : 0 ≤ f
      · have HD : Hid (difB xs = false) := by
          refine decide_eq_false (fun h => ?_)
          have := h j (by omega)
          rw [HX.out, HF.out] at this; omega
        go_wp2_with fail
        go_region_with (go_at_call 24; refine (hfc _ ((Below.refl _ _).alloc (Nat.le_refl _) _).drew).mono ?_; rintro e w2 ⟨rfl, hb2⟩)
        all_goals
          go_wp2_with fail
          go_ret
          exact ⟨ret_b HD.out.symm, below_next (hbw.alloc s1 _).drew hb2 (by show _ ≤ (World.alloc _ _).heap.size; simp; omega)⟩
      · go_wp2_with fail
        go_region_with (go_at_call 24; refine (hfc _ ((Below.refl _ _).alloc (Nat.le_refl _) _).drew).mono ?_; rintro e w2 ⟨rfl, hb2⟩)
        all_goals
          go_wp2_with fail
          go_roundw
          case rel =>
            refine ⟨j + 1, by omega, by go_num, below_next (hbw.alloc s1 _).drew hb2 (by show _ ≤ (World.alloc _ _).heap.size; simp; omega), fun k hk => ?_⟩
            rcases (show k < j ∨ k = j by omega) with h | rfl
            · exact HK.out k h
            · rw [HX.out, HF.out]; omega
          case measure => simp [intOf]; omega
    · obtain rfl : j = xs.length := by omega
      have HF : Hid (difB xs = true) := decide_eq_true HK.out
      go_wp2_with fail
      go_ret
      exact ⟨ret_b HF.out.symm, hbw⟩

set_option maxHeartbeats 1000000 in
set_option maxRecDepth 100000 in
theorem ordered_any (xs : List (Int × Int)) (v : Value) (w : World) (h : Its w v xs) (hx : xs.length ≤ 1000) :
    Calls Try.prog 38 #[.int .i64 xs.length, .func (.func 39) #[v] #[]] w fun e w' => e = .returned (.bool (ordB xs)) ∧ Below w.heap.size w w' := by
  have HI : Hid (Its w v xs) := h
  clear h
  go_enter Try.func38, Try.ntmps38
  go_wp2_with fail
  go_loopw [5] (fun i wr => ∃ (j : Nat), 1 ≤ j ∧ i = .int .i64 j ∧ Below w.heap.size w wr ∧ Hid (∀ i, i < j → 0 < i → i < xs.length → ahd (atI xs i) (atI xs (i - 1)) = false)) (fun i _ => ((xs.length : Int) - intOf i).toNat)
  case atStart => exact ⟨1, by omega, rfl, Below.refl _ _, fun k hk _ => by omega⟩
  case round =>
    obtain ⟨j, hj, rfl, hbw, HK⟩ := hrel
    have s1 := hbw.size
    by_cases hlt : (j : Int) < xs.length
    · go_wp2_with fail
      refine (less_at xs v j (j - 1) _ _ wr (HI.out.later hbw) rfl (by omega) (by omega) (by omega) hx).mono ?_
      rintro e w2 ⟨rfl, hb2⟩
      have HB : Hid (Below w.heap.size w w2) := hbw.trans (hb2.mono s1)
      clear hb2
      generalize hg : ahd (atI xs j) (atI xs (j - 1)) = g
      have HG : Hid (ahd (atI xs j) (atI xs (j - 1)) = g) := hg
      clear hg
      cases g
      · go_wp2_with fail
        go_roundw
        case rel =>
          refine ⟨j + 1, by omega, by go_num, HB.out, fun k hk k0 kl => ?_⟩
          rcases (show k < j ∨ k = j by omega) with h | rfl
          · exact HK.out k h k0 kl
          · exact HG.out
        case measure => simp [intOf]; omega
      · have HD : Hid (ordB xs = false) := by
          refine decide_eq_false (fun h => ?_)
          have := h j (by omega) (by omega)
          rw [HG.out] at this; exact absurd this (by simp)
        go_wp2_with fail
        go_ret
        exact ⟨ret_b HD.out.symm, HB.out⟩
    · have HF : Hid (ordB xs = true) := decide_eq_true (fun i hi i0 => HK.out i (by omega) i0 hi)
      go_wp2_with fail
      go_ret
      exact ⟨ret_b HF.out.symm, hbw⟩

set_option maxHeartbeats 1000000 in
set_option maxRecDepth 100000 in
theorem may_any (xs : List (Int × Int)) (v : Value) (w : World) (h : Its w v xs) :
    Calls Try.prog 22 #[v] w fun e w' => e = .returned (.bool (mayB xs)) ∧ Below w.heap.size w w' := by
  have hits := id h
  obtain ⟨a, cap, rfl, h1, h2, h0, h3⟩ := h
  have HI : Hid (Its w (.slice a xs.length cap) xs) := hits
  clear hits h3 h0
  by_cases c : (xs.length : Int) ≤ 40
  · have c' : decide ((xs.length : Int) ≤ 40) = true := decide_eq_true c
    go_enter Try.func22, Try.ntmps22
    go_wp2_with fail
    refine (differ_any xs _ w HI.out (by omega)).mono ?_
    rintro e w2 ⟨rfl, hb2⟩
    generalize hd : difB xs = d
    have HD : Hid (difB xs = d) := hd
    clear hd
    cases d
    · have HM : Hid (mayB xs = false) := by show _ = _; unfold mayB; rw [HD.out]; simp
      go_wp2_with fail
      go_ret
      exact ⟨ret_b HM.out.symm, hb2⟩
    · have HM : Hid (mayB xs = ordB xs) := by show _ = _; unfold mayB; rw [HD.out]; simp; omega
      go_wp2_with fail
      refine (ordered_any xs _ _ (HI.out.later hb2) (by omega)).mono ?_
      rintro e w3 ⟨rfl, hb3⟩
      rw [← HM.out]
      go_wp2_with fail
      go_ret
      exact ⟨rfl, hb2.trans (hb3.mono hb2.size)⟩
  · have c' : decide ((xs.length : Int) ≤ 40) = false := decide_eq_false c
    have HM : Hid (mayB xs = false) := by show _ = _; unfold mayB; rw [decide_eq_false (by omega)]; rfl
    go_enter Try.func22, Try.ntmps22
    go_wp2_with fail
    go_ret
    exact ⟨ret_b HM.out.symm, Below.refl _ _⟩
end Go.Proofs.Ytpefigaaeiaioaa
