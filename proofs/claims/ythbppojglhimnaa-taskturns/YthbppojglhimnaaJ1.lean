/- A job, in numbers: what it may be, how long it runs still, what becomes of it, and what follows: plain. -/
import Derived.Test.YthbppojglhimnaaA1
import Derived.Test.YthbppojglhimnaaU4
namespace Go.Proofs.Ythbppojglhimnaa
open Go.RowKit

/-- A job: whether there is one, its number, when it began, when it must have ended, whether it is mandatory, how long it may run, how long it would, and how long it has. -/
structure Jb where
  on : Bool
  n : Int
  rel : Int
  due : Int
  md : Bool
  c : Int
  d : Int
  ran : Int
def jbZ : Jb := ⟨false, 0, 0, 0, false, 0, 0, 0⟩
def Jb.row (j : Jb) : List Value := [.bool j.on, .int .i64 j.n, .int .i64 j.rel, .int .i64 j.due, .bool j.md, .int .i64 j.c, .int .i64 j.d, .int .i64 j.ran]
/-- Is it a zero one? -/
def zeB (j : Jb) : Bool := !j.on && (decide (j.n = 0 ∧ j.rel = 0 ∧ j.due = 0) && (!j.md && decide (j.c = 0 ∧ j.d = 0 ∧ j.ran = 0)))
/-- May one that is there be a job of a spec? -/
def jinB (s : Sp) (j : Jb) : Bool := decide (0 ≤ j.n ∧ j.n ≤ 1099511627776 ∧ 0 ≤ j.rel ∧ j.rel < j.due ∧ j.due ≤ 1099511627776) && ((j.md == onB s.m s.k j.n) && decide (j.c = s.c ∧ 1 ≤ j.d ∧ j.d ≤ 20 ∧ 0 ≤ j.ran ∧ j.ran < j.c ∧ j.ran < j.d))
def jmB (s : Sp) (j : Jb) : Bool := maySp s && bif j.on then jinB s j else zeB j
/-- A new one. -/
def newJ (s : Sp) (n rel due d : Int) : Jb := ⟨true, n, rel, due, onB s.m s.k n, s.c, d, 0⟩
def nwB (s : Sp) (n rel due d : Int) : Bool := jmB s (newJ s n rel due d)
def nwJ (s : Sp) (n rel due d : Int) : Jb := bif nwB s n rel due d then newJ s n rel due d else jbZ
/-- How long it runs still, at most, and how long it will. -/
def wstV (j : Jb) : Int := if j.on = true ∧ j.ran < j.c then j.c - j.ran else 0
def lftV (j : Jb) : Int := if j.on = true ∧ j.ran < j.c ∧ j.ran < j.d then (if j.d < j.c then j.d - j.ran else j.c - j.ran) else 0
/-- One that ran once more; what becomes of it: 0 it goes on, 1 done, 2 cut, 3 missed. -/
def ranJ (j : Jb) : Jb := ⟨j.on, j.n, j.rel, j.due, j.md, j.c, j.d, j.ran + 1⟩
def stF (j : Jb) : Int := if j.on = true then (if j.d ≤ j.ran + 1 then 1 else if j.c ≤ j.ran + 1 then 2 else 0) else 3
def stJ (j : Jb) : Jb := if stF j = 0 then ranJ j else jbZ
/-- One at a time. -/
def atF (j : Jb) (now : Int) : Int := if j.on = true ∧ j.due ≤ now then 3 else 0
def atJ (j : Jb) (now : Int) : Jb := if atF j now = 0 then j else jbZ

theorem ze_iff {j : Jb} : zeB j = true ↔ j = jbZ := by
  obtain ⟨on, n, rel, due, md, c, d, ran⟩ := j
  unfold zeB jbZ
  simp
  intro _
  simp [and_assoc]
section
variable {s : Sp} {j : Jb}
theorem jm_spec (h : jmB s j = true) : maySp s = true := by unfold jmB at h; rw [Bool.and_eq_true] at h; exact h.1
theorem jm_no (h : maySp s = false) : jmB s j = false := by unfold jmB; rw [h]; rfl
theorem jm_on (h : jmB s j = true) (ho : j.on = true) : jinB s j = true := by unfold jmB at h; rw [Bool.and_eq_true, ho] at h; exact h.2
theorem jm_off (h : jmB s j = true) (ho : j.on = false) : j = jbZ := by unfold jmB at h; rw [Bool.and_eq_true, ho] at h; exact ze_iff.1 h.2
theorem jin_facts (h : jinB s j = true) : (0 ≤ j.n ∧ j.n ≤ 1099511627776 ∧ 0 ≤ j.rel ∧ j.rel < j.due ∧ j.due ≤ 1099511627776) ∧ j.md = onB s.m s.k j.n ∧ (j.c = s.c ∧ 1 ≤ j.d ∧ j.d ≤ 20 ∧ 0 ≤ j.ran ∧ j.ran < j.c ∧ j.ran < j.d) := by
  unfold jinB at h
  rw [Bool.and_eq_true, Bool.and_eq_true] at h
  exact ⟨of_decide_eq_true h.1, eq_of_beq h.2.1, of_decide_eq_true h.2.2⟩
theorem jin_yes (h1 : 0 ≤ j.n ∧ j.n ≤ 1099511627776 ∧ 0 ≤ j.rel ∧ j.rel < j.due ∧ j.due ≤ 1099511627776) (h2 : j.md = onB s.m s.k j.n) (h3 : j.c = s.c ∧ 1 ≤ j.d ∧ j.d ≤ 20 ∧ 0 ≤ j.ran ∧ j.ran < j.c ∧ j.ran < j.d) : jinB s j = true := by
  unfold jinB
  rw [decide_eq_true h1, decide_eq_true h3, h2, beq_self_eq_true]
  rfl
theorem jm_yes (hs : maySp s = true) (ho : j.on = true) (h : jinB s j = true) : jmB s j = true := by unfold jmB; rw [hs, ho, h]; rfl
/-- What is left of one that may be: at least 1, and no more than it may. -/
theorem left_in (h : jmB s j = true) (ho : j.on = true) : 1 ≤ lftV j ∧ lftV j ≤ wstV j ∧ wstV j = j.c - j.ran ∧ lftV j = (if j.d < j.c then j.d - j.ran else j.c - j.ran) ∧ wstV j ≤ 6 := by
  obtain ⟨_, _, h1, h2, h3, h4, h5, h6⟩ := jin_facts (jm_on h ho)
  obtain ⟨_, m1, _⟩ := may_facts (jm_spec h)
  have e1 : wstV j = j.c - j.ran := by unfold wstV; rw [if_pos (And.intro ho h5)]
  have e2 : lftV j = (if j.d < j.c then j.d - j.ran else j.c - j.ran) := by unfold lftV; rw [if_pos (And.intro ho (And.intro h5 h6))]
  refine ⟨?_, ?_, e1, e2, by omega⟩
  · rw [e2]; split <;> omega
  · rw [e1, e2]; split <;> omega
/-- One of which more than 1 is left goes on, with one less, and is one that may be. -/
theorem step_in (h : jmB s j = true) (ho : j.on = true) (hl : 1 < lftV j) : stF j = 0 ∧ stJ j = ranJ j ∧ jmB s (ranJ j) = true ∧ lftV (ranJ j) = lftV j - 1 ∧ wstV (ranJ j) = wstV j - 1 := by
  obtain ⟨f1, f2, h1, h2, h3, h4, h5, h6⟩ := jin_facts (jm_on h ho)
  have hl2 := (left_in h ho).2.2.2.1
  rw [hl2] at hl
  have k1 : j.ran + 1 < j.d := by split at hl <;> omega
  have k2 : j.ran + 1 < j.c := by split at hl <;> omega
  have hf : stF j = 0 := by unfold stF; rw [if_pos ho, if_neg (by omega), if_neg (by omega)]
  have hm : jmB s (ranJ j) = true := jm_yes (jm_spec h) ho (jin_yes f1 f2 ⟨h1, h2, h3, by show 0 ≤ j.ran + 1; omega, k2, k1⟩)
  obtain ⟨_, _, w1, w2, _⟩ := left_in hm ho
  refine ⟨hf, by unfold stJ; rw [if_pos hf], hm, ?_, ?_⟩
  · rw [w2, hl2]; show (if j.d < j.c then j.d - (j.ran + 1) else j.c - (j.ran + 1)) = _; split <;> omega
  · rw [w1, (left_in h ho).2.2.1]; show j.c - (j.ran + 1) = _; omega
/-- One of which 1 is left is over: done, where it would run no longer than it may, else cut. -/
theorem step_last (h : jmB s j = true) (ho : j.on = true) (hl : lftV j = 1) : stF j = (if j.d ≤ j.c then 1 else 2) ∧ stJ j = jbZ := by
  obtain ⟨_, _, h1, h2, h3, h4, h5, h6⟩ := jin_facts (jm_on h ho)
  have hl2 := (left_in h ho).2.2.2.1
  rw [hl2] at hl
  have hf : stF j = (if j.d ≤ j.c then 1 else 2) := by
    unfold stF
    rw [if_pos ho]
    by_cases c : j.d ≤ j.c
    · rw [if_pos c, if_pos (by split at hl <;> omega)]
    · rw [if_neg c, if_neg (by split at hl <;> omega), if_pos (by split at hl <;> omega)]
  refine ⟨hf, ?_⟩
  unfold stJ
  rw [if_neg]
  rw [hf]
  split <;> omega
/-- A job of a spec is one of another one with the same C, M and K. -/
theorem jm_same {t : Sp} (hs : maySp s = true) (ht : maySp t = true) (h : s.c = t.c ∧ s.m = t.m ∧ s.k = t.k) : jmB s j = jmB t j := by
  obtain ⟨h1, h2, h3⟩ := h
  unfold jmB jinB
  rw [hs, ht, h1, h2, h3]
/-- A new one. -/
theorem nw_facts {n rel due d : Int} (h : nwB s n rel due d = true) : wstV (newJ s n rel due d) = s.c ∧ lftV (newJ s n rel due d) ≤ s.c ∧ lftV (newJ s n rel due d) ≤ d ∧ atF (newJ s n rel due d) (due - 1) = 0 ∧ atF (newJ s n rel due d) due = 3 ∧ 0 < due ∧ due ≤ 1099511627776 := by
  have ho : (newJ s n rel due d).on = true := rfl
  obtain ⟨f1, _, h1, h2, h3, h4, h5, h6⟩ := jin_facts (jm_on h ho)
  obtain ⟨_, _, w1, w2, _⟩ := left_in h ho
  have e1 : (newJ s n rel due d).ran = 0 := rfl
  have e2 : (newJ s n rel due d).d = d := rfl
  have e3 : (newJ s n rel due d).due = due := rfl
  have e4 : (newJ s n rel due d).rel = rel := rfl
  rw [e3, e4] at f1
  rw [w1, w2, e1, e2, h1]
  refine ⟨by omega, by split <;> omega, by split <;> omega, ?_, ?_, by omega, by omega⟩
  · unfold atF; rw [if_neg]; rw [e3]; rintro ⟨_, h⟩; omega
  · unfold atF; rw [if_pos (And.intro ho (show (newJ s n rel due d).due ≤ due by rw [e3]; omega))]
/-- One that would run longer. -/
def lonJ (j : Jb) (more : Int) : Jb := ⟨j.on, j.n, j.rel, j.due, j.md, j.c, j.d + more, j.ran⟩
theorem long_left {more : Int} (h0 : 0 ≤ more) : lftV j ≤ lftV (lonJ j more) := by
  unfold lftV
  have e1 : (lonJ j more).on = j.on := rfl
  have e2 : (lonJ j more).ran = j.ran := rfl
  have e3 : (lonJ j more).c = j.c := rfl
  have e4 : (lonJ j more).d = j.d + more := rfl
  rw [e1, e2, e3, e4]
  by_cases c : j.on = true ∧ j.ran < j.c ∧ j.ran < j.d
  · have c' : j.on = true ∧ j.ran < j.c ∧ j.ran < j.d + more := ⟨c.1, c.2.1, by omega⟩
    rw [if_pos c, if_pos c']
    split <;> split <;> omega
  · rw [if_neg c]
    by_cases c' : j.on = true ∧ j.ran < j.c ∧ j.ran < j.d + more
    · rw [if_pos c']; split <;> omega
    · rw [if_neg c']; omega
theorem left_worst (h : jmB s j = true) : lftV j ≤ wstV j ∧ (j.on = false → lftV j = 0 ∧ wstV j = 0) := by
  cases ho : j.on with
  | true => exact ⟨(left_in h ho).2.1, fun h => by cases h⟩
  | false =>
    have e : j = jbZ := jm_off h ho
    subst e
    exact ⟨by decide, fun _ => by decide⟩
theorem step_runs (h : jmB s j = true) (hf : stF j = 0) : j.on = true ∧ 1 < lftV j := by
  cases ho : j.on with
  | false => unfold stF at hf; rw [ho] at hf; simp at hf
  | true =>
    refine ⟨rfl, ?_⟩
    have h1 := (left_in h ho).1
    by_cases c : lftV j = 1
    · have := (step_last h ho c).1
      rw [hf] at this
      split at this <;> omega
    · omega
end
end Go.Proofs.Ythbppojglhimnaa
