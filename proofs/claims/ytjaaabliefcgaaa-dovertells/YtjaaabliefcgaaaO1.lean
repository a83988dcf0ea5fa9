/- Jobs that are worth something, in numbers: their order, whether they fit. -/
import Derived.Test.YtjaaabliefcgaaaH1
namespace Go.Proofs.Ytjaaabliefcgaaa
open Go.RowKit

structure Ap where
  id : Int
  due : Int
  c : Int
  v : Int
  r : Int
def apZ : Ap := ⟨0, 0, 0, 0, 0⟩
def atA (xs : List Ap) (i : Nat) : Ap := xs.getD i apZ
def Ap.key (a : Ap) : Int × Int := (a.due, a.id)
def keysA (xs : List Ap) : List (Int × Int) := xs.map Ap.key
def eqA (a b : Ap) : Bool := decide (a.id = b.id) && (decide (a.due = b.due) && (decide (a.c = b.c) && (decide (a.v = b.v) && decide (a.r = b.r))))
theorem Ap.ext' {a b : Ap} (h0 : a.id = b.id) (h1 : a.due = b.due) (h2 : a.c = b.c) (h3 : a.v = b.v) (h4 : a.r = b.r) : a = b := by
  cases a; cases b; simp_all
theorem eqA_iff {a b : Ap} : eqA a b = true ↔ a = b := by
  unfold eqA
  simp
  constructor
  · rintro ⟨h0, h1, h2, h3, h4⟩; exact Ap.ext' h0 h1 h2 h3 h4
  · rintro rfl; simp
theorem eqA_no {a b : Ap} : eqA a b = false ↔ a ≠ b := by
  rw [← Bool.not_eq_true, eqA_iff]
theorem eqA_self (a : Ap) : eqA a a = true := eqA_iff.2 rfl
theorem atA_get {xs : List Ap} {k : Nat} (h : k < xs.length) : xs[k]? = some (atA xs k) := by
  simp [atA, List.getD, h]
theorem atA_of {xs : List Ap} {k : Nat} {x : Ap} (h : xs[k]? = some x) : atA xs k = x := by
  simp [atA, List.getD, h]
theorem atA_mem {xs : List Ap} {k : Nat} (h : k < xs.length) : atA xs k ∈ xs := List.mem_of_getElem? (atA_get h)
theorem takeA_next {xs : List Ap} {j : Nat} (h : j < xs.length) : xs.take (j + 1) = xs.take j ++ [atA xs j] := by
  rw [List.take_add_one, atA_get h]; rfl
theorem dropA_next {xs : List Ap} {j : Nat} (h : j < xs.length) : xs.drop j = atA xs j :: xs.drop (j + 1) := by
  rw [List.drop_eq_getElem_cons h]
  congr 1
  exact (atA_of (List.getElem?_eq_getElem h)).symm
theorem atA_key {xs : List Ap} {k : Nat} (h : k < xs.length) : atI (keysA xs) k = (atA xs k).key := by
  apply atI_of
  unfold keysA
  rw [List.getElem?_map, atA_get h]; rfl
theorem keysA_len (xs : List Ap) : (keysA xs).length = xs.length := by simp [keysA]

/-- Put behind all that it is not ahead of. -/
def insA (a : Ap) : List Ap → List Ap
  | [] => [a]
  | y :: ys => if ahd a.key y.key then a :: y :: ys else y :: insA a ys
def ordF (acc : List Ap) : List Ap → List Ap
  | [] => acc
  | a :: bs => ordF (insA a acc) bs
/-- In order; those that are the same in it as they stand. -/
def ordA (xs : List Ap) : List Ap := ordF [] xs
theorem insA_perm (a : Ap) (ys : List Ap) : (insA a ys).Perm (a :: ys) := by
  induction ys with
  | nil => exact List.Perm.refl _
  | cons y ys ih =>
    unfold insA; split
    · exact List.Perm.refl _
    · exact (ih.cons y).trans (List.Perm.swap a y ys)
theorem insA_key (a : Ap) (ys : List Ap) : keysA (insA a ys) = ins a.key (keysA ys) := by
  induction ys with
  | nil => rfl
  | cons y ys ih =>
    unfold insA keysA
    rw [List.map_cons]
    unfold ins
    split
    · rfl
    · rw [List.map_cons]; congr 1
theorem ordF_perm (xs : List Ap) : ∀ acc, (ordF acc xs).Perm (acc ++ xs) := by
  induction xs with
  | nil => intro acc; rw [List.append_nil]; exact List.Perm.refl _
  | cons a bs ih =>
    intro acc
    refine (ih _).trans (((insA_perm a acc).append_right bs).trans ?_)
    exact (List.perm_middle (a := a) (l₁ := acc) (l₂ := bs)).symm
theorem ordA_perm (xs : List Ap) : (ordA xs).Perm xs := ordF_perm xs []
theorem ordA_len (xs : List Ap) : (ordA xs).length = xs.length := (ordA_perm xs).length_eq
theorem ordF_srtd (xs : List Ap) : ∀ acc, srtd (keysA acc) → srtd (keysA (ordF acc xs)) := by
  induction xs with
  | nil => intro acc h; exact h
  | cons a bs ih => intro acc h; exact ih _ (by rw [insA_key]; exact ins_srtd h)
theorem ordA_srtd (xs : List Ap) : srtd (keysA (ordA xs)) := ordF_srtd xs [] List.Pairwise.nil
theorem ordA_keys (xs : List Ap) : keysA (ordA xs) = srt (keysA xs) := srt_of (ordA_srtd xs) ((ordA_perm xs).map _)
theorem ordF_app (xs : List Ap) (a : Ap) : ∀ acc, ordF acc (xs ++ [a]) = insA a (ordF acc xs) := by
  induction xs with
  | nil => intro acc; rfl
  | cons x xs ih => intro acc; exact ih _
theorem ordA_app (xs : List Ap) (a : Ap) : ordA (xs ++ [a]) = insA a (ordA xs) := ordF_app xs a []

/-- Those of one key, as they stand. -/
def selA (k : Int × Int) (xs : List Ap) : List Ap := xs.filter fun a => decide (a.key = k)
theorem selA_app (k : Int × Int) (xs ys : List Ap) : selA k (xs ++ ys) = selA k xs ++ selA k ys := by simp [selA]
theorem selA_cons (k : Int × Int) (a : Ap) (xs : List Ap) : selA k (a :: xs) = if a.key = k then a :: selA k xs else selA k xs := by
  unfold selA
  rw [List.filter_cons]
  simp
theorem selA_ins (k : Int × Int) (a : Ap) (ys : List Ap) (hs : srtd (keysA ys)) : selA k (insA a ys) = selA k ys ++ selA k [a] := by
  induction ys with
  | nil => rfl
  | cons y ys ih =>
    unfold keysA at hs
    rw [List.map_cons] at hs
    unfold srtd at hs
    rw [List.pairwise_cons] at hs
    unfold insA
    split
    · next hy =>
      by_cases hk : a.key = k
      · have none : selA k (y :: ys) = [] := by
          unfold selA
          rw [List.filter_eq_nil_iff]
          intro z hz
          simp
          intro e
          have hle : ile y.key z.key := by
            rcases List.mem_cons.1 hz with rfl | hz
            · exact ile_refl _
            · exact hs.1 _ (List.mem_map_of_mem hz)
          rw [e, ← hk, ile_iff] at hle
          rw [ahd_iff] at hy
          omega
        rw [none, selA_cons, if_pos hk, none, selA_cons, if_pos hk]
        rfl
      · rw [selA_cons, if_neg hk, selA_cons (xs := []), if_neg hk]
        show _ = _ ++ []
        rw [List.append_nil]
    · rw [selA_cons, selA_cons, ih hs.2]
      split
      · rfl
      · rfl
theorem selA_ordF (k : Int × Int) (xs : List Ap) : ∀ acc, srtd (keysA acc) → selA k (ordF acc xs) = selA k acc ++ selA k xs := by
  induction xs with
  | nil => intro acc _; show _ = _ ++ []; rw [List.append_nil]; rfl
  | cons a bs ih =>
    intro acc h
    show selA k (ordF (insA a acc) bs) = _
    rw [ih _ (by rw [insA_key]; exact ins_srtd h), selA_ins k a acc h, List.append_assoc, ← selA_app]
    rfl
theorem selA_ord (k : Int × Int) (xs : List Ap) : selA k (ordA xs) = selA k xs := selA_ordF k xs [] List.Pairwise.nil
theorem selA_len (k : Int × Int) (xs : List Ap) : (selA k xs).length ≤ xs.length := List.length_filter_le _ _
theorem selA_next {k : Int × Int} {xs : List Ap} {j : Nat} (h : j < xs.length) : selA k (xs.drop j) = if (atA xs j).key = k then atA xs j :: selA k (xs.drop (j + 1)) else selA k (xs.drop (j + 1)) := by
  rw [dropA_next h, selA_cons]
theorem selA_more {k : Int × Int} {xs : List Ap} {j : Nat} (h : j < xs.length) : selA k (xs.take (j + 1)) = if (atA xs j).key = k then selA k (xs.take j) ++ [atA xs j] else selA k (xs.take j) := by
  rw [takeA_next h, selA_app, selA_cons]
  split
  · rfl
  · show _ ++ [] = _; rw [List.append_nil]

/-- What is left. -/
def lefA (a : Ap) : Int := a.c - a.r
def laxA (a : Ap) (now : Int) : Int := a.due - now - (a.c - a.r)
/-- Run one behind the other from now on, as they stand: does each end till its Due? -/
def fitL : Int → List Ap → Bool
  | _, [] => true
  | now, a :: bs => decide (now + (a.c - a.r) ≤ a.due) && fitL (now + (a.c - a.r)) bs
def fitsA (xs : List Ap) (now : Int) : Bool := fitL now (ordA xs)
def idsA (xs : List Ap) : List Int := xs.map Ap.id
/-- Numbers that are not too far from 0. -/
def nearA (a : Ap) : Prop := -1125899906842624 ≤ a.due ∧ a.due ≤ 1125899906842624 ∧ -1125899906842624 ≤ a.c ∧ a.c ≤ 1125899906842624 ∧ -1125899906842624 ≤ a.r ∧ a.r ≤ 1125899906842624
def nearL (xs : List Ap) : Prop := ∀ a ∈ xs, nearA a
theorem nearL_ord {xs : List Ap} (h : nearL xs) : nearL (ordA xs) := fun a ha => h a ((ordA_perm xs).mem_iff.1 ha)
theorem atA_ordId {xs : List Ap} {j : Nat} (h : j < xs.length) : (idsA (ordA xs))[j]? = some (atA (ordA xs) j).id := by
  unfold idsA
  rw [List.getElem?_map, atA_get (by rw [ordA_len]; exact h)]
  rfl
end Go.Proofs.Ytjaaabliefcgaaa
