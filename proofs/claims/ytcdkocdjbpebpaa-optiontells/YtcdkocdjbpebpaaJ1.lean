/- A job, in numbers: what it may be, how long it runs still, what becomes of it, and what follows: plain. -/
import Derived.Test.YtcdkocdjbpebpaaA1
import Derived.Test.YtcdkocdjbpebpaaH2
import Derived.Test.YtcdkocdjbpebpaaV1
import Derived.ProofKit
import Derived.OpenShut
import Derived.Carry
import Derived.Lib.SmallJoins
import Derived.Deep.SlicePairs
import Derived.Test.YtcdkocdjbpebpaaW1
import Derived.Test.YtcdkocdjbpebpaaV2
import Derived.Test.YtcdkocdjbpebpaaM1
import Derived.Test.YtcdkocdjbpebpaaE1
import Derived.Test.YtcdkocdjbpebpaaW4
import Derived.ChangeKeysEq
import Derived.Lib.Mul64
import Derived.Test.YtcdkocdjbpebpaaE4
import Derived.Test.YtcdkocdjbpebpaaF1
import Derived.Deep.RegionHeld3
namespace Go.Proofs.Ytcdkocdjbpebpaa
open Go.RowKit

/-- A job: whether there is one, its number, when it began, when it must have ended, whether it is mandatory, how long it may run, how long it would, and how long it has. -/
structure Jb where
  on : Bool
  n : Int
  rel : Int
  due : Int
  md : Bool
  c : Int
  d : Int
  ran : Int
def jbZ : Jb := ⟨false, 0, 0, 0, false, 0, 0, 0⟩
def Jb.row (j : Jb) : List Value := [.bool j.on, .int .i64 j.n, .int .i64 j.rel, .int .i64 j.due, .bool j.md, .int .i64 j.c, .int .i64 j.d, .int .i64 j.ran]
/-- Is it a zero one? -/
def zeB (j : Jb) : Bool := !j.on && (decide (j.n = 0 ∧ j.rel = 0 ∧ j.due = 0) && (!j.md && decide (j.c = 0 ∧ j.d = 0 ∧ j.ran = 0)))
/-- May one that is there be a job of a spec? -/
def jinB (s : Sp) (j : Jb) : Bool := decide (0 ≤ j.n ∧ j.n ≤ 1099511627776 ∧ 0 ≤ j.rel ∧ j.rel < j.due ∧ j.due ≤ 1099511627776) && ((j.md == onB s.m s.k j.n) && decide (j.c = s.c ∧ 1 ≤ j.d ∧ j.d ≤ 20 ∧ 0 ≤ j.ran ∧ j.ran < j.c ∧ j.ran < j.d))
def jmB (s : Sp) (j : Jb) : Bool := maySp s && bif j.on then jinB s j else zeB j
/-- How long it runs still, at most, and how long it will. -/
def wstV (j : Jb) : Int := if j.on = true ∧ j.ran < j.c then j.c - j.ran else 0
def lftV (j : Jb) : Int := if j.on = true ∧ j.ran < j.c ∧ j.ran < j.d then (if j.d < j.c then j.d - j.ran else j.c - j.ran) else 0
section
variable {s : Sp} {j : Jb}
theorem jm_no (h : maySp s = false) : jmB s j = false := by unfold jmB; rw [h]; rfl
theorem jin_facts (h : jinB s j = true) : (0 ≤ j.n ∧ j.n ≤ 1099511627776 ∧ 0 ≤ j.rel ∧ j.rel < j.due ∧ j.due ≤ 1099511627776) ∧ j.md = onB s.m s.k j.n ∧ (j.c = s.c ∧ 1 ≤ j.d ∧ j.d ≤ 20 ∧ 0 ≤ j.ran ∧ j.ran < j.c ∧ j.ran < j.d) := by
  unfold jinB at h
  rw [Bool.and_eq_true, Bool.and_eq_true] at h
  exact ⟨of_decide_eq_true h.1, eq_of_beq h.2.1, of_decide_eq_true h.2.2⟩
theorem jin_yes (h1 : 0 ≤ j.n ∧ j.n ≤ 1099511627776 ∧ 0 ≤ j.rel ∧ j.rel < j.due ∧ j.due ≤ 1099511627776) (h2 : j.md = onB s.m s.k j.n) (h3 : j.c = s.c ∧ 1 ≤ j.d ∧ j.d ≤ 20 ∧ 0 ≤ j.ran ∧ j.ran < j.c ∧ j.ran < j.d) : jinB s j = true := by
  unfold jinB
  rw [decide_eq_true h1, decide_eq_true h3, h2, beq_self_eq_true]
  rfl
end
end Go.Proofs.Ytcdkocdjbpebpaa
