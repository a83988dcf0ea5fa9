/- Jobs in their order, as one of them runs: in numbers. -/
import Derived.Test.YtjaaabliefcgaaaO13
namespace Go.Proofs.Ytjaaabliefcgaaa
open Go.RowKit Go.Maps Go.Shelf

theorem key_same {xs : List Ap} (hd : (idsA xs).Nodup) {a b : Ap} (ha : a ∈ xs) (hb : b ∈ xs) (h : a.id = b.id) : a = b := by
  have h1 := lkA_mem hd ha
  have h2 := lkA_mem hd hb
  rw [h] at h1
  exact h1.symm.trans h2
/-- Of jobs no two of which are of one ID there is one order. -/
theorem ord_uniq {xs L : List Ap} (hd : (idsA xs).Nodup) (hs : srtd (keysA L)) (hp : L.Perm xs) : L = ordA xs := by
  have h1 : L.Pairwise (fun a b => ile a.key b.key) := List.pairwise_map.1 hs
  have h2 : (ordA xs).Pairwise (fun a b => ile a.key b.key) := List.pairwise_map.1 (ordA_srtd xs)
  refine List.Perm.eq_of_pairwise (fun a b ha hb hab hba => ?_) h1 h2 (hp.trans (ordA_perm xs).symm)
  have e := ile_anti hab hba
  unfold Ap.key at e
  simp only [Prod.mk.injEq] at e
  exact key_same hd (hp.mem_iff.1 ha) ((ordA_perm xs).mem_iff.1 hb) e.2
theorem ids_perm {xs ys : List Ap} (h : xs.Perm ys) : (idsA xs).Perm (idsA ys) := h.map _
theorem ids_ord {xs : List Ap} (hd : (idsA xs).Nodup) : (idsA (ordA xs)).Nodup := (ids_perm (ordA_perm xs)).nodup_iff.2 hd

/-- One that has run once more. -/
def bmp (id : Int) (a : Ap) : Ap := if a.id = id then ⟨a.id, a.due, a.c, a.v, a.r + 1⟩ else a
def keepB (a : Ap) : Bool := decide (a.r < a.c)
/-- Those that are there behind that. -/
def rstA (xs : List Ap) (id : Int) : List Ap := (xs.map (bmp id)).filter keepB
theorem bmp_id (id : Int) (a : Ap) : (bmp id a).id = a.id := by unfold bmp; split <;> rfl
theorem bmp_key (id : Int) (a : Ap) : (bmp id a).key = a.key := by unfold bmp; split <;> rfl
theorem bmp_ids (id : Int) (xs : List Ap) : idsA (xs.map (bmp id)) = idsA xs := by
  unfold idsA; rw [List.map_map]; exact List.map_congr_left (fun a _ => bmp_id id a)
theorem bmp_keys (id : Int) (xs : List Ap) : keysA (xs.map (bmp id)) = keysA xs := by
  unfold keysA; rw [List.map_map]; exact List.map_congr_left (fun a _ => bmp_key id a)
theorem rst_nodup {xs : List Ap} (id : Int) (hd : (idsA xs).Nodup) : (idsA (rstA xs id)).Nodup := by
  rw [← bmp_ids id xs] at hd
  exact hd.sublist (List.filter_sublist.map _)
theorem rst_ord {xs : List Ap} (id : Int) (hd : (idsA xs).Nodup) : rstA (ordA xs) id = ordA (rstA xs id) := by
  refine ord_uniq (rst_nodup id hd) ?_ (((ordA_perm xs).map _).filter _)
  have h := ordA_srtd xs
  rw [← bmp_keys id (ordA xs)] at h
  exact h.sublist (List.filter_sublist.map _)
theorem rst_next {xs : List Ap} {j : Nat} (h : j < xs.length) (id : Int) : rstA (xs.take (j + 1)) id = if keepB (bmp id (atA xs j)) = true then rstA (xs.take j) id ++ [bmp id (atA xs j)] else rstA (xs.take j) id := by
  rw [takeA_next h]
  unfold rstA
  rw [List.map_append, List.filter_append]
  cases c : keepB (bmp id (atA xs j)) <;> simp [c]
theorem rst_len (xs : List Ap) (id : Int) : (rstA xs id).length ≤ xs.length := by
  unfold rstA
  have := List.length_filter_le keepB (xs.map (bmp id))
  rwa [List.length_map] at this
/-- What is left of all of them. -/
def totA : List Ap → Int
  | [] => 0
  | a :: as' => (a.c - a.r) + totA as'
theorem totA_perm {xs ys : List Ap} (h : xs.Perm ys) : totA xs = totA ys := by
  induction h with
  | nil => rfl
  | cons a _ ih => show _ + _ = _ + _; rw [ih]
  | swap a b l => show _ + (_ + _) = _ + (_ + _); omega
  | trans _ _ ih1 ih2 => exact ih1.trans ih2
theorem rst_other {T : List Ap} {id : Int} (hn : ∀ a ∈ T, a.id ≠ id) (hk : ∀ a ∈ T, a.r < a.c) : rstA T id = T := by
  induction T with
  | nil => rfl
  | cons a T ih =>
    have e : bmp id a = a := by unfold bmp; rw [if_neg (hn a (by simp))]
    unfold rstA at ih ⊢
    rw [List.map_cons, e, List.filter_cons, if_pos (show keepB a = true from decide_eq_true (hk a (by simp)))]
    rw [ih (fun b hb => hn b (by simp [hb])) (fun b hb => hk b (by simp [hb]))]
theorem mayA_run {a : Ap} (h : mayA a = true) : a.r < a.c := by have := mayA_iff.1 h; omega
theorem fitL_lax {L : List Ap} : ∀ {now : Int}, fitL now L = true → (∀ a ∈ L, a.r ≤ a.c) → ∀ a ∈ L, now + (a.c - a.r) ≤ a.due := by
  induction L with
  | nil => intro now _ _ a ha; simp at ha
  | cons b L ih =>
    intro now h hk a ha
    unfold fitL at h
    rw [Bool.and_eq_true] at h
    have h1 := of_decide_eq_true h.1
    rcases List.mem_cons.1 ha with rfl | ha
    · exact h1
    · have := ih h.2 (fun c hc => hk c (by simp [hc])) a ha
      have := hk b (by simp)
      omega
theorem fits_able {xs : List Ap} {now : Int} (hm : ∀ a ∈ xs, mayA a = true) (h : fitsA xs now = true) : (∀ a ∈ xs, now + (a.c - a.r) ≤ a.due) ∧ ableA xs now = xs ∧ lateA xs now = [] := by
  have h1 : ∀ a ∈ xs, now + (a.c - a.r) ≤ a.due := fun a ha => fitL_lax h (fun b hb => by have := mayA_run (hm b ((ordA_perm xs).mem_iff.1 hb)); omega) a ((ordA_perm xs).mem_iff.2 ha)
  refine ⟨h1, ?_, ?_⟩
  · unfold ableA
    rw [List.filter_eq_self]
    intro a ha
    have := h1 a ha
    unfold ableB laxA
    exact decide_eq_true (by omega)
  · unfold lateA
    have : (xs.filter fun a => !ableB now a) = [] := by
      rw [List.filter_eq_nil_iff]
      intro a ha
      have := h1 a ha
      unfold ableB laxA
      rw [decide_eq_true (by omega)]
      simp
    rw [this]; rfl
theorem pick_fits {xs : List Ap} {cur now : Int} (hm : mayL xs now = true) (hf : fitsA xs now = true) (hl : 0 < xs.length) : pickA xs cur now = ((atA (ordA xs) 0).id, []) := by
  obtain ⟨_, _, _, hall⟩ := mayL_iff.1 hm
  obtain ⟨_, h2, h3⟩ := fits_able hall hf
  unfold pickA
  rw [hm, h2, h3, hf]
  simp only [if_true]
  rw [if_neg (by omega)]
/-- One time further. -/
theorem fit_step {xs : List Ap} {now : Int} (hm : mayL xs now = true) (hf : fitsA xs now = true) (hl : 0 < xs.length) (hn : now < 549755813888) :
    mayL (rstA xs (atA (ordA xs) 0).id) (now + 1) = true ∧ fitsA (rstA xs (atA (ordA xs) 0).id) (now + 1) = true ∧ totA (rstA xs (atA (ordA xs) 0).id) = totA xs - 1 ∧ ∀ a ∈ xs, keepB (bmp (atA (ordA xs) 0).id a) = false → now + 1 ≤ a.due := by
  obtain ⟨n4, ⟨n0, n1⟩, nd, hall⟩ := mayL_iff.1 hm
  have hol : (ordA xs).length = xs.length := ordA_len xs
  have hallo : ∀ a ∈ ordA xs, mayA a = true := fun a ha => hall a ((ordA_perm xs).mem_iff.1 ha)
  have ndo := ids_ord nd
  have hfo : fitL now (ordA xs) = true := hf
  have hte : totA (ordA xs) = totA xs := totA_perm (ordA_perm xs)
  have hro := rst_ord (xs := xs) (atA (ordA xs) 0).id nd
  obtain ⟨h, T, e⟩ : ∃ h T, ordA xs = h :: T := by
    cases c : ordA xs with
    | nil => rw [c] at hol; simp at hol; omega
    | cons h T => exact ⟨h, T, rfl⟩
  rw [e] at hallo ndo hfo hte hro ⊢
  have e0 : atA (h :: T) 0 = h := rfl
  rw [e0] at hro ⊢
  have hh := mayA_iff.1 (hallo h (by simp))
  have hT : rstA T h.id = T := by
    refine rst_other (fun a ha e2 => ?_) (fun a ha => mayA_run (hallo a (by simp [ha])))
    unfold idsA at ndo
    rw [List.map_cons, List.nodup_cons] at ndo
    exact ndo.1 (List.mem_map.2 ⟨a, ha, e2⟩)
  have hb : bmp h.id h = ⟨h.id, h.due, h.c, h.v, h.r + 1⟩ := by unfold bmp; rw [if_pos rfl]
  have hr : rstA (h :: T) h.id = if h.r + 1 < h.c then ⟨h.id, h.due, h.c, h.v, h.r + 1⟩ :: T else T := by
    unfold rstA at hT ⊢
    rw [List.map_cons, hb, List.filter_cons]
    unfold keepB at hT ⊢
    simp only [decide_eq_true_eq]
    split
    · rw [hT]
    · exact hT
  unfold fitL at hfo
  rw [Bool.and_eq_true] at hfo
  have f1 := of_decide_eq_true hfo.1
  have hal : ∀ a ∈ xs, a ∈ h :: T := fun a ha => by rw [← e]; exact (ordA_perm xs).mem_iff.2 ha
  refine ⟨?_, ?_, ?_, ?_⟩
  · refine mayL_iff.2 ⟨by have := rst_len xs h.id; omega, ⟨by omega, by omega⟩, rst_nodup _ nd, fun a ha => ?_⟩
    unfold rstA at ha
    obtain ⟨h1, h2⟩ := List.mem_filter.1 ha
    obtain ⟨b, hb1, rfl⟩ := List.mem_map.1 h1
    have hmb := mayA_iff.1 (hall b hb1)
    have h3 := of_decide_eq_true h2
    unfold bmp at h3 ⊢
    split at h3
    · next c => rw [if_pos c]; rw [mayA_iff]; simp only at h3 ⊢; omega
    · next c => rw [if_neg c]; exact hall b hb1
  · unfold fitsA
    rw [← hro, hr]
    split
    · unfold fitL
      simp only
      rw [Bool.and_eq_true]
      exact ⟨decide_eq_true (by omega), by rw [show now + 1 + (h.c - (h.r + 1)) = now + (h.c - h.r) by omega]; exact hfo.2⟩
    · rw [show now + 1 = now + (h.c - h.r) by omega]; exact hfo.2
  · rw [← totA_perm (ordA_perm (rstA xs h.id)), ← hro, hr, ← hte]
    split
    · show _ + totA T = _ + totA T - 1
      simp only
      omega
    · show totA T = _ + totA T - 1
      omega
  · intro a ha hk
    have hma := mayA_iff.1 (hall a ha)
    unfold keepB bmp at hk
    have hk' := of_decide_eq_false hk
    split at hk'
    · next c =>
      have : a = h := by
        have nd2 : (idsA (h :: T)).Nodup := ndo
        exact key_same nd2 (hal a ha) (by simp) c
      subst this
      simp only at hk'
      omega
    · omega
theorem totA_bd {xs : List Ap} (h : ∀ a ∈ xs, mayA a = true) : (xs.length : Int) ≤ totA xs ∧ totA xs ≤ 40 * xs.length := by
  induction xs with
  | nil => simp [totA]
  | cons a xs ih =>
    have := ih (fun b hb => h b (by simp [hb]))
    have ha := mayA_iff.1 (h a (by simp))
    unfold totA
    rw [List.length_cons]
    omega
end Go.Proofs.Ytjaaabliefcgaaa
