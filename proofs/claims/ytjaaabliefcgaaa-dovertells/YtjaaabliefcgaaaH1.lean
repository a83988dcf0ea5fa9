/- Lists of items: who is ahead, what is ordered, and what a heap is. -/
import Derived.Test.YtjaaabliefcgaaaW1
import Derived.WalkKit
import Derived.WalkSpells
import Derived.Below
namespace Go.Proofs.Ytjaaabliefcgaaa
open Go.RowKit


/-- An item is ahead of another one. -/
def ahd (a b : Int × Int) : Bool := decide (a.1 < b.1) || (decide (a.1 = b.1) && decide (a.2 < b.2))
theorem ahd_iff {a b : Int × Int} : ahd a b = true ↔ a.1 < b.1 ∨ (a.1 = b.1 ∧ a.2 < b.2) := by simp [ahd]
theorem ahd_not {a b : Int × Int} : ahd a b = false ↔ b.1 < a.1 ∨ (b.1 = a.1 ∧ b.2 ≤ a.2) := by
  rw [← Bool.not_eq_true, ahd_iff]; omega
/-- b does not stand ahead of a. -/
def ile (a b : Int × Int) : Prop := ahd b a = false
theorem ile_iff {a b : Int × Int} : ile a b ↔ a.1 < b.1 ∨ (a.1 = b.1 ∧ a.2 ≤ b.2) := by unfold ile; rw [ahd_not]
theorem ile_refl (a : Int × Int) : ile a a := by rw [ile_iff]; omega
theorem ile_trans {a b c : Int × Int} (h : ile a b) (k : ile b c) : ile a c := by rw [ile_iff] at *; omega
theorem ile_anti {a b : Int × Int} (h : ile a b) (k : ile b a) : a = b := by
  rw [ile_iff] at *; exact Prod.ext (by omega) (by omega)
theorem ile_of {a b : Int × Int} (h : ahd a b = true) : ile a b := by rw [ahd_iff] at h; rw [ile_iff]; omega
theorem ile_total (a b : Int × Int) : ile a b ∨ ile b a := by simp only [ile_iff]; omega
theorem ahd_eq (a b : Int × Int) : ahd a b = if a.1 = b.1 then decide (a.2 < b.2) else decide (a.1 < b.1) := by
  unfold ahd; split
  · next h => simp [h]
  · next h => simp [h]

/-- The k-th item. -/
def atI (xs : List (Int × Int)) (k : Nat) : Int × Int := xs.getD k (0, 0)
theorem atI_get {xs : List (Int × Int)} {k : Nat} (h : k < xs.length) : xs[k]? = some (atI xs k) := by
  simp [atI, List.getD, h]
theorem atI_of {xs : List (Int × Int)} {k : Nat} {x : Int × Int} (h : xs[k]? = some x) : atI xs k = x := by
  simp [atI, List.getD, h]
theorem atI_mem {xs : List (Int × Int)} {k : Nat} (h : k < xs.length) : atI xs k ∈ xs := List.mem_of_getElem? (atI_get h)
theorem atI_set {xs : List (Int × Int)} {i : Nat} (x : Int × Int) (h : i < xs.length) (k : Nat) : atI (xs.set i x) k = if k = i then x else atI xs k := by
  unfold atI List.getD
  rw [List.getElem?_set]
  by_cases e : i = k
  · subst e; simp [h]
  · rw [if_neg e, if_neg (fun h => e h.symm)]
theorem atI_app1 {xs ys : List (Int × Int)} {k : Nat} (h : k < xs.length) : atI (xs ++ ys) k = atI xs k := by
  unfold atI List.getD; rw [List.getElem?_append_left h]
theorem atI_take {xs : List (Int × Int)} {k n : Nat} (h : k < n) : atI (xs.take n) k = atI xs k := by
  unfold atI List.getD; rw [List.getElem?_take, if_pos h]
theorem atI_ext {xs ys : List (Int × Int)} (h : xs.length = ys.length) (h' : ∀ k, k < xs.length → atI xs k = atI ys k) : xs = ys := by
  apply List.ext_getElem? ; intro k
  by_cases hk : k < xs.length
  · rw [atI_get hk, atI_get (h ▸ hk), h' k hk]
  · rw [List.getElem?_eq_none (by omega), List.getElem?_eq_none (by omega)]

/-- Two items change places. -/
def swp (xs : List (Int × Int)) (i j : Nat) : List (Int × Int) := (xs.set i (atI xs j)).set j (atI xs i)
theorem swp_len (xs : List (Int × Int)) (i j : Nat) : (swp xs i j).length = xs.length := by simp [swp]
theorem swp_at {xs : List (Int × Int)} {i j : Nat} (hi : i < xs.length) (hj : j < xs.length) (k : Nat) :
    atI (swp xs i j) k = if k = j then atI xs i else if k = i then atI xs j else atI xs k := by
  unfold swp; rw [atI_set _ (by simpa using hj), atI_set _ hi]
theorem swp_perm {xs : List (Int × Int)} {i j : Nat} (hi : i < xs.length) (hj : j < xs.length) : (swp xs i j).Perm xs := by
  have h := Array.swap_perm (xs := xs.toArray) (i := i) (j := j) (by simpa using hi) (by simpa using hj)
  have h2 := h.toList
  rw [Array.toList_swap] at h2
  have e : ∀ k (hk : k < xs.length), xs[k] = atI xs k := fun k hk => by simp [atI, List.getD, hk]
  simpa [swp, e i hi, e j hj] using h2

/-- Items in their order. -/
def srtd (xs : List (Int × Int)) : Prop := xs.Pairwise ile
theorem srtd_perm {xs ys : List (Int × Int)} (h : srtd xs) (k : srtd ys) (p : xs.Perm ys) : xs = ys :=
  List.Perm.eq_of_pairwise (fun _ _ _ _ => ile_anti) h k p
/-- An item put into a list in its order, behind all that it is not ahead of. -/
def ins (x : Int × Int) : List (Int × Int) → List (Int × Int)
  | [] => [x]
  | y :: ys => if ahd x y then x :: y :: ys else y :: ins x ys
def srt : List (Int × Int) → List (Int × Int)
  | [] => []
  | x :: xs => ins x (srt xs)
theorem ins_perm (x : Int × Int) (ys : List (Int × Int)) : (ins x ys).Perm (x :: ys) := by
  induction ys with
  | nil => exact List.Perm.refl _
  | cons y ys ih =>
    unfold ins; split
    · exact List.Perm.refl _
    · exact (ih.cons y).trans (List.Perm.swap x y ys)
theorem ins_srtd {x : Int × Int} {ys : List (Int × Int)} (h : srtd ys) : srtd (ins x ys) := by
  induction ys with
  | nil => exact List.pairwise_singleton _ _
  | cons y ys ih =>
    unfold srtd at h ih ⊢
    rw [List.pairwise_cons] at h
    unfold ins; split
    · next hx =>
      refine List.pairwise_cons.2 ⟨fun z hz => ?_, List.pairwise_cons.2 h⟩
      rcases List.mem_cons.1 hz with rfl | hz
      · exact ile_of hx
      · exact ile_trans (ile_of hx) (h.1 z hz)
    · next hx =>
      refine List.pairwise_cons.2 ⟨fun z hz => ?_, ih h.2⟩
      rcases List.mem_cons.1 ((ins_perm x ys).mem_iff.1 hz) with rfl | hz
      · exact by unfold ile; simpa using hx
      · exact h.1 z hz
theorem srt_perm (xs : List (Int × Int)) : (srt xs).Perm xs := by
  induction xs with
  | nil => exact List.Perm.refl _
  | cons x xs ih => exact (ins_perm x _).trans (ih.cons x)
theorem srt_srtd (xs : List (Int × Int)) : srtd (srt xs) := by
  induction xs with
  | nil => exact List.Pairwise.nil
  | cons x xs ih => exact ins_srtd ih
theorem srt_len (xs : List (Int × Int)) : (srt xs).length = xs.length := (srt_perm xs).length_eq
theorem srt_of {xs ys : List (Int × Int)} (h : srtd ys) (p : ys.Perm xs) : ys = srt xs := srtd_perm h (srt_srtd xs) (p.trans (srt_perm xs).symm)
theorem srt_self {xs : List (Int × Int)} (h : srtd xs) : srt xs = xs := (srt_of h (List.Perm.refl _)).symm
theorem srt_congr {xs ys : List (Int × Int)} (p : xs.Perm ys) : srt xs = srt ys := srt_of (srt_srtd xs) ((srt_perm xs).trans p)

/-- The item at c is not ahead of the one above it. -/
def okE (xs : List (Int × Int)) (c : Nat) : Prop := ahd (atI xs c) (atI xs ((c - 1) / 2)) = false
/-- The first n items are a heap. -/
def heapN (xs : List (Int × Int)) (n : Nat) : Prop := ∀ c, 0 < c → c < n → okE xs c
theorem heap_min {xs : List (Int × Int)} {n : Nat} (h : heapN xs n) : ∀ k, k < n → ile (atI xs 0) (atI xs k) := by
  intro k
  induction k using Nat.strongRecOn with
  | ind k ih =>
    intro hk
    rcases Nat.eq_zero_or_pos k with rfl | h0
    · exact ile_refl _
    · exact ile_trans (ih ((k - 1) / 2) (by omega) (by omega)) (h k h0 hk)

/-- What holds ahead of a round of down at j: all is a heap from a on, but for what stands below j, and for the first one, i, while it stands there. -/
structure dn (a i n : Nat) (xs : List (Int × Int)) (j : Nat) : Prop where
  ok : ∀ c, 0 < c → c < n → a ≤ (c - 1) / 2 → (c - 1) / 2 ≠ j → (c = i → j ≠ i) → okE xs c
  gr : ∀ c, 0 < c → c < n → (c - 1) / 2 = j → 0 < j → a ≤ (j - 1) / 2 → ahd (atI xs c) (atI xs ((j - 1) / 2)) = false
theorem dn_step {a i n j c : Nat} {xs : List (Int × Int)} (h : dn a i n xs j) (hn : n ≤ xs.length) (hc : (c - 1) / 2 = j) (c0 : 0 < c) (cn : c < n) (ha : a ≤ j) (hij : i ≤ j)
    (hx : ahd (atI xs c) (atI xs j) = true) (hs : ∀ d, 0 < d → d < n → (d - 1) / 2 = j → ahd (atI xs d) (atI xs c) = false) : dn a i n (swp xs j c) c := by
  have hcj : c ≠ j := by omega
  have e := swp_at (xs := xs) (i := j) (j := c) (by omega) (by omega)
  refine ⟨fun d d0 dn ad hd hdi => ?_, fun d d0 dn hd _ had => ?_⟩
  · unfold okE
    by_cases h1 : (d - 1) / 2 = j
    · rw [e, e, h1, if_neg (show j ≠ c by omega), if_pos rfl]
      by_cases h2 : d = c
      · subst h2; rw [if_pos rfl]; exact ile_of hx
      · rw [if_neg h2, if_neg (by omega)]; exact hs d d0 dn h1
    · rw [e, e]
      by_cases h2 : d = j
      · subst h2
        rw [if_neg (by omega), if_pos rfl, if_neg (by omega), if_neg (by omega)]
        exact h.gr c c0 cn hc d0 ad
      · have h3 : d ≠ c := by omega
        rw [if_neg h3, if_neg h2, if_neg (by omega), if_neg h1]
        exact h.ok d d0 dn ad h1 (by omega)
  · rw [e, e]
    rw [if_neg (by omega), if_neg (by omega), hc, if_neg (by omega), if_pos rfl]
    have := h.ok d d0 dn (by omega) (by omega) (by omega)
    unfold okE at this; rwa [hd] at this
/-- What holds behind down: b tells whether something moved. -/
structure dd (a i n : Nat) (xs ys : List (Int × Int)) (b : Bool) : Prop where
  perm : ys.Perm xs
  ok : ∀ c, 0 < c → c < n → a ≤ (c - 1) / 2 → (b = true ∨ c ≠ i) → okE ys c
  same : ∀ k, n ≤ k → atI ys k = atI xs k
  stay : b = false → ys = xs
theorem dn_stop {a i n j : Nat} {xs ys : List (Int × Int)} (h : dn a i n ys j) (p : ys.Perm xs) (s : ∀ k, n ≤ k → atI ys k = atI xs k) (st : j = i → ys = xs) (hij : i ≤ j)
    (hs : ∀ d, 0 < d → d < n → (d - 1) / 2 = j → ahd (atI ys d) (atI ys j) = false) : dd a i n xs ys (decide (i < j)) := by
  refine ⟨p, fun c c0 cn ac hb => ?_, s, fun hb => st (by simp at hb; omega)⟩
  by_cases h1 : (c - 1) / 2 = j
  · unfold okE; rw [h1]; exact hs c c0 cn h1
  · refine h.ok c c0 cn ac h1 (fun e e2 => ?_)
    rcases hb with hb | hb
    · simp at hb; omega
    · exact hb e
/-- What holds ahead of a round of up at j. -/
structure upI (n : Nat) (xs : List (Int × Int)) (j : Nat) : Prop where
  ok : ∀ c, 0 < c → c < n → c ≠ j → okE xs c
  gr : ∀ c, 0 < c → c < n → (c - 1) / 2 = j → 0 < j → ahd (atI xs c) (atI xs ((j - 1) / 2)) = false
theorem up_step {n j : Nat} {xs : List (Int × Int)} (h : upI n xs j) (hn : n ≤ xs.length) (j0 : 0 < j) (hj : j < n) (hx : ahd (atI xs j) (atI xs ((j - 1) / 2)) = true) : upI n (swp xs ((j - 1) / 2) j) ((j - 1) / 2) := by
  obtain ⟨i, hi⟩ : ∃ i, (j - 1) / 2 = i := ⟨_, rfl⟩
  rw [hi] at hx ⊢
  have e := swp_at (xs := xs) (i := i) (j := j) (by omega) (by omega)
  refine ⟨fun c c0 cn ci => ?_, fun c c0 cn hc i0 => ?_⟩
  · unfold okE; rw [e, e]
    by_cases h1 : c = j
    · subst h1; rw [if_pos rfl, hi, if_neg (by omega), if_pos rfl]; exact ile_of hx
    · rw [if_neg h1, if_neg ci]
      by_cases h2 : (c - 1) / 2 = j
      · rw [if_pos h2]; have := h.gr c c0 cn h2 j0; rwa [hi] at this
      · rw [if_neg h2]
        by_cases h3 : (c - 1) / 2 = i
        · rw [if_pos h3]
          have := h.ok c c0 cn h1
          unfold okE at this; rw [h3] at this
          exact ile_trans (ile_of hx) this
        · rw [if_neg h3]; exact h.ok c c0 cn h1
  · rw [e, e]
    have k1 := h.ok i (by omega) (by omega) (by omega)
    unfold okE at k1
    rw [if_neg (show (i - 1) / 2 ≠ j by omega), if_neg (show (i - 1) / 2 ≠ i by omega)]
    by_cases h1 : c = j
    · subst h1; rw [if_pos rfl]; exact k1
    · rw [if_neg h1, if_neg (by omega)]
      have := h.ok c c0 cn h1
      unfold okE at this; rw [hc] at this
      exact ile_trans k1 this
theorem up_stop {n j : Nat} {xs : List (Int × Int)} (h : upI n xs j) (hx : j = 0 ∨ okE xs j) : heapN xs n := by
  intro c c0 cn
  by_cases e : c = j
  · subst e; exact hx.resolve_left (by omega)
  · exact h.ok c c0 cn e
end Go.Proofs.Ytjaaabliefcgaaa
