/- The rounds of pressing: what stands behind each, and that the last one tells the least force: plain arithmetic. -/
import Derived.Test.YtjiockmphbhljaaDoorX1
namespace Go.Proofs.YtjiockmphbhljaaDoor

section
variable {n : Nat} {U L E : Nat → Int}

def sel (S : Nat → Bool) (g : Nat → Int) (i : Nat) : Int := if S i then g i else 0
def slk (U L : Nat → Int) (i : Nat) : Int := U i - L i

/-- What stands ahead of each round: those of S give still; the others are at their least, by a force of a0 through b0, which is no more than what the round finds. -/
structure Rnd (n : Nat) (U L E : Nat → Int) (load : Int) (S : Nat → Bool) (over a0 b0 : Int) : Prop where
  pos : 0 < over
  big : over ≤ 4194304
  isO : over = sm n (fun i => if S i then U i else L i) - load
  give : ∀ i, i < n → S i = true → 0 < slk U L i
  bpos : 1 ≤ b0
  done : ∀ i, i < n → S i = false → slk U L i * b0 ≤ a0 * E i
  up : a0 * sm n (sel S E) ≤ over * b0
  room : over ≤ sm n (sel S (slk U L))

theorem sel_nonneg {S : Nat → Bool} {g : Nat → Int} {i : Nat} (h : 0 ≤ g i) : 0 ≤ sel S g i := by
  unfold sel; split <;> omega
theorem sel_le {S : Nat → Bool} {g : Nat → Int} {i : Nat} (h : 0 ≤ g i) : sel S g i ≤ g i := by
  unfold sel; split <;> omega

theorem Rnd.pull {load over a0 b0 : Int} {S : Nat → Bool} (hs : Sp7 n U L E) (h : Rnd n U L E load S over a0 b0) : 1 ≤ sm n (sel S E) ∧ sm n (sel S E) ≤ 32 := by
  have e0 : ∀ i, i < n → 0 ≤ sel S E i := fun i hi => sel_nonneg (hs.e0 i hi)
  constructor
  · obtain ⟨i, hi, h1⟩ := sm_pos (show 0 < sm n (sel S (slk U L)) by have := h.pos; have := h.room; omega)
    have hS : S i = true := by
      cases c : S i
      · unfold sel at h1; rw [c] at h1; simp at h1
      · rfl
    have hg := h.give i hi hS
    have hE : E i ≠ 0 := fun e => by have := hs.stiff i hi e; unfold slk at hg; omega
    have hE0 := hs.e0 i hi
    have := sm_one_le e0 hi
    have e : sel S E i = E i := by unfold sel; rw [hS]; rfl
    omega
  · have := sm_le (n := n) (f := sel S E) (g := fun _ => 8) (fun i hi => Int.le_trans (sel_le (hs.e0 i hi)) (hs.e8 i hi))
    rw [sm_const] at this
    have := hs.len
    omega

/-- Who is at its least by over through p. -/
def struck (U L E : Nat → Int) (S : Nat → Bool) (over p : Int) (i : Nat) : Bool := S i && decide (slk U L i * p ≤ over * E i)
def left7 (U L E : Nat → Int) (S : Nat → Bool) (over p : Int) (i : Nat) : Bool := S i && !decide (slk U L i * p ≤ over * E i)

theorem part_sum {S T : Nat → Bool} {g : Nat → Int} (h : ∀ i, T i = true → S i = true) : sm n (sel S g) = sm n (sel T g) + sm n (sel (fun i => S i && !T i) g) := by
  rw [← sm_add]
  refine sm_congr (fun i _ => ?_)
  unfold sel
  cases hT : T i
  · cases hS : S i <;> simp [hT, hS]
  · simp [h i hT, hT]

theorem given_le {over : Int} {S : Nat → Bool} (hs : Sp7 n U L E) {p : Int} (hp : p = sm n (sel S E)) :
    sm n (sel (struck U L E S over p) (slk U L)) * p ≤ over * sm n (sel (struck U L E S over p) E) ∧ sm n (sel (struck U L E S over p) E) ≤ p := by
  constructor
  · rw [Int.mul_comm, ← sm_mul, ← sm_mul]
    refine sm_le (fun i _ => ?_)
    unfold sel
    split
    · next c =>
      unfold struck at c
      rw [Bool.and_eq_true] at c
      have := of_decide_eq_true c.2
      rw [Int.mul_comm p]; exact this
    · simp
  · rw [hp]
    refine sm_le (fun i hi => ?_)
    unfold sel
    have := hs.e0 i hi
    split
    · next c =>
      unfold struck at c
      rw [Bool.and_eq_true] at c
      rw [c.1]; simp
    · split <;> omega

/-- The end: nobody is at its least who was not; or those who are give all of it. -/
theorem Rnd.fin {load over a0 b0 : Int} {S : Nat → Bool} (hs : Sp7 n U L E) (h : Rnd n U L E load S over a0 b0) {p : Int} (hp : p = sm n (sel S E))
    (hg : sm n (sel (struck U L E S over p) (slk U L)) = 0 ∨ sm n (sel (struck U L E S over p) (slk U L)) = over) : Fin7 n U L E load S over p := by
  obtain ⟨p1, p32⟩ := h.pull hs
  rw [← hp] at p1 p32
  have key : ∀ i, i < n → S i = true → over * E i ≤ slk U L i * p := by
    rcases hg with h0 | h1
    · intro i hi hS
      by_cases c : over * E i ≤ slk U L i * p
      · exact c
      · exfalso
        have hT : struck U L E S over p i = true := by unfold struck; rw [hS, decide_eq_true (by omega)]; rfl
        have := sm_one_le (n := n) (f := sel (struck U L E S over p) (slk U L)) (fun j hj => sel_nonneg (by have := hs.top j hj; unfold slk; omega)) hi
        have e : sel (struck U L E S over p) (slk U L) i = slk U L i := by unfold sel; rw [hT]; rfl
        have := h.give i hi hS
        omega
    · have g := given_le (over := over) hs hp
      rw [h1] at g
      have pE : sm n (sel (struck U L E S over p) E) = p := by
        have := g.1
        have := Int.le_of_mul_le_mul_left g.1 h.pos
        omega
      have ps := part_sum (n := n) (S := S) (T := struck U L E S over p) (g := E) (fun i hi => by unfold struck at hi; rw [Bool.and_eq_true] at hi; exact hi.1)
      rw [← hp, pE] at ps
      -- nobody else has any give: those not struck have E 0, which none of S has
      have all : ∀ i, i < n → S i = true → struck U L E S over p i = true := by
        intro i hi hS
        cases c : struck U L E S over p i
        · exfalso
          have := sm_one_le (n := n) (f := sel (fun i => S i && !struck U L E S over p i) E) (fun j hj => sel_nonneg (hs.e0 j hj)) hi
          have e : sel (fun i => S i && !struck U L E S over p i) E i = E i := by unfold sel; simp [hS, c]
          have hE0 := hs.e0 i hi
          have := hs.stiff i hi (by omega)
          have := h.give i hi hS
          unfold slk at this
          omega
        · rfl
      -- each gives just what it gives by the force, for together they do
      have eachp := sm_eq_each (n := n) (f := fun i => p * sel (struck U L E S over p) (slk U L) i) (g := fun i => over * sel (struck U L E S over p) E i) (fun i _ => by
        show p * sel _ _ i ≤ over * sel _ _ i
        unfold sel
        split
        · next c =>
          unfold struck at c
          rw [Bool.and_eq_true] at c
          have := of_decide_eq_true c.2
          rw [Int.mul_comm p]; exact this
        · simp) (by rw [sm_mul, sm_mul, h1, pE, Int.mul_comm]; exact Int.le_refl _)
      intro i hi hS
      have := eachp i hi
      simp only [sel, all i hi hS, if_true] at this
      rw [Int.mul_comm (slk U L i), this]
      exact Int.le_refl _
  have done : ∀ i, i < n → S i = false → slk U L i * p ≤ over * E i := by
    intro i hi hS
    have h1 := h.done i hi hS
    have h2 := h.up
    rw [← hp] at h2
    have hE := hs.e0 i hi
    have hb := h.bpos
    have h3 : slk U L i * b0 * p ≤ a0 * E i * p := Int.mul_le_mul_of_nonneg_right h1 (by omega)
    have h4 : a0 * p * E i ≤ over * b0 * E i := Int.mul_le_mul_of_nonneg_right h2 hE
    have e1 : slk U L i * b0 * p = b0 * (slk U L i * p) := by rw [Int.mul_comm (slk U L i), Int.mul_assoc]
    have e2 : a0 * E i * p = a0 * p * E i := by rw [Int.mul_assoc, Int.mul_comm (E i), Int.mul_assoc]
    have e3 : over * b0 * E i = b0 * (over * E i) := by rw [Int.mul_comm over, Int.mul_assoc]
    rw [e1, e2] at h3
    rw [e3] at h4
    exact Int.le_of_mul_le_mul_left (Int.le_trans h3 h4) (by omega)
  refine ⟨h.pos, h.big, p1, p32, h.isO, hp, ?_, fun c d _ ht => fin_least h.isO hp c d ht⟩
  have ht : tot n U L E over p = sm n (fun i => p * (if S i then U i else L i) - over * sel S E i) := by
    refine sm_congr (fun i hi => ?_)
    unfold hav sel
    cases c : S i
    · have := done i hi c
      unfold slk at this
      rw [Int.sub_mul, Int.mul_comm (U i), Int.mul_comm (L i)] at this
      simp only [Bool.false_eq_true, if_false, Int.mul_zero]
      omega
    · have := key i hi c
      unfold slk at this
      rw [Int.sub_mul, Int.mul_comm (U i), Int.mul_comm (L i)] at this
      simp only [if_true]
      omega
  rw [ht, sm_sub, sm_mul, sm_mul, ← hp]
  have e := h.isO
  have : sm n (fun i => if S i then U i else L i) = over + load := by omega
  rw [this, Int.mul_add, Int.mul_comm over]
  omega

/-- Else one more round: fewer are left. -/
theorem Rnd.next {load over a0 b0 : Int} {S : Nat → Bool} (hs : Sp7 n U L E) (h : Rnd n U L E load S over a0 b0) {p given : Int} (hp : p = sm n (sel S E)) (hgv : given = sm n (sel (struck U L E S over p) (slk U L))) (h0 : given ≠ 0) (h1 : given ≠ over) :
    Rnd n U L E load (left7 U L E S over p) (over - given) over p ∧ sm n (sel (left7 U L E S over p) (fun _ => 1)) < sm n (sel S (fun _ => 1)) ∧ 0 < given := by
  obtain ⟨p1, p32⟩ := h.pull hs
  rw [← hp] at p1 p32
  have g := given_le (over := over) hs hp
  rw [← hgv] at g
  have hsl : ∀ i, i < n → 0 ≤ slk U L i := fun i hi => by have := hs.top i hi; unfold slk; omega
  have g0 : 0 ≤ given := by rw [hgv]; exact sm_nonneg (fun i hi => sel_nonneg (hsl i hi))
  have gle : given ≤ over := by
    have := Int.mul_le_mul_of_nonneg_left g.2 (show 0 ≤ over by have := h.pos; omega)
    have := Int.le_trans g.1 this
    exact Int.le_of_mul_le_mul_right this (by omega)
  have hpos := h.pos
  have hT : ∀ i, struck U L E S over p i = true → S i = true := fun i hi => by unfold struck at hi; rw [Bool.and_eq_true] at hi; exact hi.1
  have hleft : ∀ i, (S i && !struck U L E S over p i) = left7 U L E S over p i := by
    intro i; unfold struck left7; cases S i <;> simp
  have psE := part_sum (n := n) (g := E) hT
  have psS := part_sum (n := n) (g := slk U L) hT
  have ps1 := part_sum (n := n) (g := fun _ => 1) hT
  have hf : (fun i => S i && !struck U L E S over p i) = left7 U L E S over p := funext hleft
  rw [hf] at psE psS ps1
  have hroom := h.room
  refine ⟨⟨by omega, by have := h.big; omega, ?_, ?_, p1, ?_, ?_, by omega⟩, ?_, by omega⟩
  · have e := h.isO
    have : sm n (fun i => if S i then U i else L i) = sm n (fun i => if left7 U L E S over p i then U i else L i) + given := by
      rw [hgv, ← sm_add]
      refine sm_congr (fun i _ => ?_)
      rw [← hleft]
      unfold sel slk
      cases hTi : struck U L E S over p i
      · cases hS : S i <;> simp
      · simp [hT i hTi]; omega
    omega
  · intro i hi hl
    unfold left7 at hl
    rw [Bool.and_eq_true] at hl
    exact h.give i hi hl.1
  · intro i hi hl
    unfold left7 at hl
    cases c : S i
    · -- it was at its least ahead of the round
      have h1 := h.done i hi c
      have h2 := h.up
      rw [← hp] at h2
      have hE := hs.e0 i hi
      have hb := h.bpos
      have h3 : slk U L i * b0 * p ≤ a0 * E i * p := Int.mul_le_mul_of_nonneg_right h1 (by omega)
      have h4 : a0 * p * E i ≤ over * b0 * E i := Int.mul_le_mul_of_nonneg_right h2 hE
      have e1 : slk U L i * b0 * p = b0 * (slk U L i * p) := by rw [Int.mul_comm (slk U L i), Int.mul_assoc]
      have e2 : a0 * E i * p = a0 * p * E i := by rw [Int.mul_assoc, Int.mul_comm (E i), Int.mul_assoc]
      have e3 : over * b0 * E i = b0 * (over * E i) := by rw [Int.mul_comm over, Int.mul_assoc]
      rw [e1, e2] at h3
      rw [e3] at h4
      exact Int.le_of_mul_le_mul_left (Int.le_trans h3 h4) (by omega)
    · rw [c] at hl
      simp at hl
      exact hl
  · rw [Int.sub_mul]
    have e : over * sm n (sel (left7 U L E S over p) E) = over * p - over * sm n (sel (struck U L E S over p) E) := by
      have q : over * p = over * sm n (sel (struck U L E S over p) E) + over * sm n (sel (left7 U L E S over p) E) := by
        rw [← Int.mul_add, ← psE, ← hp]
      omega
    rw [e]
    have := g.1
    omega
  · obtain ⟨i, hi, hgi⟩ := sm_pos (show 0 < sm n (sel (struck U L E S over p) (slk U L)) by omega)
    have hSi : struck U L E S over p i = true := by
      cases c : struck U L E S over p i
      · unfold sel at hgi; rw [c] at hgi; simp at hgi
      · rfl
    have := sm_one_le (n := n) (f := sel (struck U L E S over p) (fun _ => 1)) (fun j _ => sel_nonneg (by decide)) hi
    have e : sel (struck U L E S over p) (fun _ => 1) i = 1 := by unfold sel; rw [hSi]; rfl
    omega

/-- The first round. -/
theorem Rnd.start {load : Int} (hs : Sp7 n U L E) (hroom : sm n L ≤ load) (hover : load < sm n U) : Rnd n U L E load (fun i => decide (0 < slk U L i)) (sm n U - load) 0 1 := by
  have e : sm n (fun i => if decide (0 < slk U L i) = true then U i else L i) = sm n U := sm_congr (fun i hi => by
    have := hs.top i hi
    by_cases c : 0 < slk U L i
    · rw [decide_eq_true c]; rfl
    · rw [decide_eq_false c]; unfold slk at c; simp; omega)
  have e2 : sm n (sel (fun i => decide (0 < slk U L i)) (slk U L)) = sm n U - sm n L := by
    rw [← sm_sub]
    refine sm_congr (fun i hi => ?_)
    have := hs.top i hi
    unfold sel
    by_cases c : 0 < slk U L i
    · simp only [decide_eq_true c, if_true]; rfl
    · simp only [decide_eq_false c]; unfold slk at c; simp; omega
  have hu := sm_le (n := n) (f := U) (g := fun _ => 1048576) hs.unit
  rw [sm_const] at hu
  have := hs.len
  have hl := sm_nonneg (n := n) (f := L) (fun i hi => by have := hs.low i hi; omega)
  refine ⟨by omega, by omega, by rw [e], fun i _ h => of_decide_eq_true h, by omega, fun i hi h => ?_, by simp; omega, by rw [e2]; omega⟩
  have := of_decide_eq_false h
  rw [Int.zero_mul]
  omega
end
end Go.Proofs.YtjiockmphbhljaaDoor
