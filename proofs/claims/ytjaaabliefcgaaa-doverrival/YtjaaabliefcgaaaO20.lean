/- What the statement DoverRival comes to: in numbers. -/
import Derived.Test.YtjaaabliefcgaaaO19
namespace Go.Proofs.Ytjaaabliefcgaaa
open Go.RowKit Go.Maps Go.Shelf

/-- One that runs at a time, if it may. -/
def rvF (now : Int) (t : Nat) (id : Int) (a : Ap) : Ap := if a.id = id ∧ a.r < a.c ∧ now + t < a.due then ⟨a.id, a.due, a.c, a.v, a.r + 1⟩ else a
/-- What is left of those that must have ended by a time. -/
def totD (D : Int) (xs : List Ap) : Int := totA (xs.filter fun a => decide (a.due ≤ D))
def cntT (now D : Int) : Nat → Int
  | 0 => 0
  | t + 1 => cntT now D t + if now + t < D then 1 else 0
theorem cntT_le (now D : Int) : ∀ t, 0 ≤ cntT now D t ∧ (D ≤ now → cntT now D t = 0) ∧ (now ≤ D → cntT now D t ≤ D - now ∧ cntT now D t ≤ t)
  | 0 => by unfold cntT; omega
  | t + 1 => by
    obtain ⟨h1, h2, h3⟩ := cntT_le now D t
    unfold cntT
    refine ⟨by split <;> omega, fun h => ?_, fun h => ?_⟩
    · have := h2 h
      rw [if_neg (by omega)]
      omega
    · have := h3 h
      split
      · omega
      · omega
theorem rvF_id (now : Int) (t : Nat) (id : Int) (a : Ap) : (rvF now t id a).id = a.id ∧ (rvF now t id a).due = a.due ∧ (rvF now t id a).c = a.c := by unfold rvF; split <;> exact ⟨rfl, rfl, rfl⟩
theorem rvF_other {now : Int} {t : Nat} {id : Int} {a : Ap} (h : a.id ≠ id) : rvF now t id a = a := by unfold rvF; rw [if_neg (fun e => h e.1)]
theorem rvF_map {now : Int} {t : Nat} {id : Int} {xs : List Ap} (h : id ∉ idsA xs) : xs.map (rvF now t id) = xs := by
  induction xs with
  | nil => rfl
  | cons a xs ih =>
    unfold idsA at h ih
    simp only [List.map_cons, List.mem_cons, not_or] at h
    rw [List.map_cons, rvF_other (fun e => h.1 e.symm), ih h.2]
theorem totD_cons (D : Int) (a : Ap) (xs : List Ap) : totD D (a :: xs) = (if a.due ≤ D then a.c - a.r else 0) + totD D xs := by
  unfold totD
  rw [List.filter_cons]
  by_cases h : a.due ≤ D
  · rw [if_pos (decide_eq_true h), if_pos h]; rfl
  · rw [if_neg (by simp [h]), if_neg h]; omega
theorem totD_step (now D : Int) (t : Nat) (id : Int) {xs : List Ap} (hd : (idsA xs).Nodup) : totD D xs - (if now + t < D then 1 else 0) ≤ totD D (xs.map (rvF now t id)) := by
  induction xs with
  | nil => simp [totD, totA]; split <;> omega
  | cons a xs ih =>
    have hd0 := hd
    unfold idsA at hd
    rw [List.map_cons, List.nodup_cons] at hd
    rw [List.map_cons, totD_cons, totD_cons]
    by_cases c : a.id = id
    · rw [rvF_map (xs := xs) (by rw [← c]; exact hd.1)]
      unfold rvF
      by_cases k : a.id = id ∧ a.r < a.c ∧ now + t < a.due
      · rw [if_pos k]
        simp only
        by_cases e : a.due ≤ D
        · rw [if_pos e, if_pos e, if_pos (by omega)]
          omega
        · rw [if_neg e, if_neg e]
          split <;> omega
      · rw [if_neg k]
        split <;> split <;> omega
    · rw [rvF_other c]
      have := ih hd.2
      omega
theorem totD_nonneg {D : Int} {xs : List Ap} (h : ∀ a ∈ xs, a.r ≤ a.c) : 0 ≤ totD D xs := by
  induction xs with
  | nil => simp [totD, totA]
  | cons a xs ih =>
    rw [totD_cons]
    have := ih (fun b hb => h b (by simp [hb]))
    have := h a (by simp)
    split <;> omega
theorem totA_app (P Q : List Ap) : totA (P ++ Q) = totA P + totA Q := by
  induction P with
  | nil => simp [totA]
  | cons a P ih => show _ + totA (P ++ Q) = _ + totA P + totA Q; rw [ih]; omega
theorem totD_pre {D : Int} {P Q : List Ap} (hp : ∀ a ∈ P, a.due ≤ D) (hq : ∀ a ∈ Q, a.r ≤ a.c) : totA P ≤ totD D (P ++ Q) := by
  have e : totD D (P ++ Q) = totA P + totD D Q := by
    unfold totD
    rw [List.filter_append, totA_app, List.filter_eq_self.2 (fun a ha => decide_eq_true (hp a ha))]
  have := totD_nonneg (D := D) hq
  omega
/-- If by no time more must be done than there is till then, each ends in time, in their order. -/
theorem fitL_of {L : List Ap} {now : Int} (hs : L.Pairwise (fun a b => ile a.key b.key)) (hr : ∀ a ∈ L, a.r < a.c) (hD : ∀ D, totD D L ≤ 0 ∨ totD D L ≤ D - now) : ∀ (M P : List Ap), P ++ M = L → fitL (now + totA P) M = true := by
  intro M
  induction M with
  | nil => intro P _; rfl
  | cons a M ih =>
    intro P e
    have e2 : (P ++ [a]) ++ M = L := by rw [← e]; simp
    have hdue : ∀ b ∈ P ++ [a], b.due ≤ a.due := fun b hb => by
      rcases List.mem_append.1 hb with hb | hb
      · have h2 := hs
        rw [← e, List.pairwise_append] at h2
        have := ile_iff.1 (h2.2.2 b hb a (by simp))
        unfold Ap.key at this
        simp only at this
        omega
      · rw [List.mem_singleton] at hb
        rw [hb]; omega
    have h1 := totD_pre (D := a.due) (P := P ++ [a]) (Q := M) hdue (fun b hb => by have := hr b (by rw [← e]; simp [hb]); omega)
    rw [e2, totA_app] at h1
    have h2 : totA [a] = a.c - a.r := by show _ + 0 = _; omega
    have h3 := hr a (by rw [← e]; simp)
    have h4 : 0 ≤ totA P := by
      have hP : ∀ b ∈ P, b.r < b.c := fun b hb => hr b (by rw [← e]; simp [hb])
      clear ih e e2 hdue h1 h2 h3 hs hD
      induction P with
      | nil => simp [totA]
      | cons b P ihP =>
        have := ihP (fun c hc => hP c (by simp [hc]))
        have := hP b (by simp)
        show 0 ≤ _ + totA P
        omega
    have h5 := hD a.due
    unfold fitL
    rw [Bool.and_eq_true]
    refine ⟨decide_eq_true (by omega), ?_⟩
    have := ih (P ++ [a]) e2
    rw [totA_app, h2, ← Int.add_assoc] at this
    exact this
/-- What holds ahead of each time. -/
structure RvI (xs ys : List Ap) (now : Int) (t : Nat) : Prop where
  ids : idsA ys = idsA xs
  ok : ∀ a ∈ ys, 0 ≤ a.r ∧ a.r ≤ a.c ∧ a.c ≤ 40
  tot : ∀ D, totD D xs - cntT now D t ≤ totD D ys
theorem RvI.start {xs : List Ap} {now : Int} (h : ∀ a ∈ xs, mayA a = true) : RvI xs xs now 0 :=
  ⟨rfl, fun a ha => by have := mayA_iff.1 (h a ha); omega, fun D => by unfold cntT; omega⟩
theorem RvI.step {xs ys : List Ap} {now : Int} {t : Nat} (h : RvI xs ys now t) (hd : (idsA xs).Nodup) (id : Int) : RvI xs (ys.map (rvF now t id)) now (t + 1) := by
  have hdy : (idsA ys).Nodup := by rw [h.ids]; exact hd
  refine ⟨?_, fun a ha => ?_, fun D => ?_⟩
  · rw [← h.ids]
    unfold idsA
    rw [List.map_map]
    exact List.map_congr_left (fun a _ => (rvF_id now t id a).1)
  · obtain ⟨b, hb, rfl⟩ := List.mem_map.1 ha
    have := h.ok b hb
    unfold rvF
    split
    · next c => simp only; omega
    · exact this
  · have h1 := totD_step now D t id hdy
    have h2 := h.tot D
    have h3 : cntT now D (t + 1) = cntT now D t + if now + t < D then 1 else 0 := rfl
    omega
theorem RvI.done {xs ys : List Ap} {now : Int} {t : Nat} (h : RvI xs ys now t) (hm : ∀ a ∈ xs, mayA a = true) (hall : ∀ a ∈ ys, ¬ a.r < a.c) : fitsA xs now = true := by
  have hz : ∀ D, totD D ys = 0 := fun D => by
    have hok := h.ok
    clear h
    induction ys with
    | nil => simp [totD, totA]
    | cons a ys ih =>
      rw [totD_cons, ih (fun b hb => hall b (by simp [hb])) (fun b hb => hok b (by simp [hb]))]
      have h1 := hok a (by simp)
      have h2 := hall a (by simp)
      split <;> omega
  have hso : (ordA xs).Pairwise (fun a b => ile a.key b.key) := List.pairwise_map.1 (ordA_srtd xs)
  have := fitL_of (L := ordA xs) (now := now) hso (fun a ha => mayA_run (hm a ((ordA_perm xs).mem_iff.1 ha))) (fun D => ?_) (ordA xs) [] rfl
  · have e : now + totA [] = now := by show now + 0 = now; omega
    rw [e] at this
    exact this
  · have e : totD D (ordA xs) = totD D xs := totA_perm ((ordA_perm xs).filter _)
    have h1 := h.tot D
    rw [hz D] at h1
    obtain ⟨c1, c2, c3⟩ := cntT_le now D t
    rw [e]
    by_cases hD : D ≤ now
    · have := c2 hD; exact .inl (by omega)
    · have := c3 (by omega); exact .inr (by omega)
def mixF (f : Ap → Ap) (ys : List Ap) (i k : Nat) : Ap := if k < i then f (atA ys k) else atA ys k
theorem mix_up (f : Ap → Ap) (ys : List Ap) (i k : Nat) : upR (mixF f ys i) i (f (atA ys i)) k = mixF f ys (i + 1) k := by
  unfold upR mixF
  by_cases c : k = i
  · subst c; rw [if_pos rfl, if_pos (by omega)]
  · rw [if_neg c]
    by_cases d : k < i
    · rw [if_pos d, if_pos (by omega)]
    · rw [if_neg d, if_neg (by omega)]
theorem mix_same {f : Ap → Ap} {ys : List Ap} {i : Nat} (h : f (atA ys i) = atA ys i) (k : Nat) : mixF f ys i k = mixF f ys (i + 1) k := by
  unfold mixF
  by_cases c : k = i
  · subst c; rw [if_neg (by omega), if_pos (by omega), h]
  · by_cases d : k < i
    · rw [if_pos d, if_pos (by omega)]
    · rw [if_neg d, if_neg (by omega)]
theorem mix_end (f : Ap → Ap) (ys : List Ap) {k : Nat} (h : k < ys.length) : mixF f ys ys.length k = atA (ys.map f) k := by
  unfold mixF
  rw [if_pos h]
  exact (atA_of (by rw [List.getElem?_map, atA_get h]; rfl)).symm
end Go.Proofs.Ytjaaabliefcgaaa
