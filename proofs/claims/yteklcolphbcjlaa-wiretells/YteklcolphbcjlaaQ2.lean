/- Texts that belong together, one behind the other: J1. -/
import Derived.Test.YteklcolphbcjlaaQ1
/- A job, in numbers: what it may be, how long it runs still, what becomes of it, and what follows: plain. -/
namespace Go.Proofs.Yteklcolphbcjlaa
open Go.RowKit

/-- A job: whether there is one, its number, when it began, when it must have ended, whether it is mandatory, how long it may run, how long it would, and how long it has. -/
structure Jb where
  on : Bool
  n : Int
  rel : Int
  due : Int
  md : Bool
  c : Int
  d : Int
  ran : Int
def jbZ : Jb := ⟨false, 0, 0, 0, false, 0, 0, 0⟩
def Jb.row (j : Jb) : List Value := [.bool j.on, .int .i64 j.n, .int .i64 j.rel, .int .i64 j.due, .bool j.md, .int .i64 j.c, .int .i64 j.d, .int .i64 j.ran]
/-- Is it a zero one? -/
def zeB (j : Jb) : Bool := !j.on && (decide (j.n = 0 ∧ j.rel = 0 ∧ j.due = 0) && (!j.md && decide (j.c = 0 ∧ j.d = 0 ∧ j.ran = 0)))
/-- May one that is there be a job of a spec? -/
def jinB (s : Sp) (j : Jb) : Bool := decide (0 ≤ j.n ∧ j.n ≤ 1099511627776 ∧ 0 ≤ j.rel ∧ j.rel < j.due ∧ j.due ≤ 1099511627776) && ((j.md == onB s.m s.k j.n) && decide (j.c = s.c ∧ 1 ≤ j.d ∧ j.d ≤ 20 ∧ 0 ≤ j.ran ∧ j.ran < j.c ∧ j.ran < j.d))
def jmB (s : Sp) (j : Jb) : Bool := maySp s && bif j.on then jinB s j else zeB j
/-- A new one. -/
def newJ (s : Sp) (n rel due d : Int) : Jb := ⟨true, n, rel, due, onB s.m s.k n, s.c, d, 0⟩
def nwB (s : Sp) (n rel due d : Int) : Bool := jmB s (newJ s n rel due d)
def nwJ (s : Sp) (n rel due d : Int) : Jb := bif nwB s n rel due d then newJ s n rel due d else jbZ
/-- How long it runs still, at most, and how long it will. -/
def wstV (j : Jb) : Int := if j.on = true ∧ j.ran < j.c then j.c - j.ran else 0
/-- One that ran once more; what becomes of it: 0 it goes on, 1 done, 2 cut, 3 missed. -/
def ranJ (j : Jb) : Jb := ⟨j.on, j.n, j.rel, j.due, j.md, j.c, j.d, j.ran + 1⟩
def stF (j : Jb) : Int := if j.on = true then (if j.d ≤ j.ran + 1 then 1 else if j.c ≤ j.ran + 1 then 2 else 0) else 3
def stJ (j : Jb) : Jb := if stF j = 0 then ranJ j else jbZ
/-- One at a time. -/
def atF (j : Jb) (now : Int) : Int := if j.on = true ∧ j.due ≤ now then 3 else 0
def atJ (j : Jb) (now : Int) : Jb := if atF j now = 0 then j else jbZ

section
variable {s : Sp} {j : Jb}
end
end Go.Proofs.Yteklcolphbcjlaa
