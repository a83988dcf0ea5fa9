/- Walks of package spec: the numbers of a description, and what each must be. -/
import Derived.Test.YtjaaabliefcgaaaA1
import Derived.Test.YtjaaabliefcgaaaM1
import Derived.Laws.EntriesVeiled
import Derived.Deep.RegionHeld3
namespace Go.Proofs.Ytjaaabliefcgaaa
open Go.RowKit

/-- A description. -/
structure Sp where
  c : Int
  t : Int
  x : Int
  m : Int
  k : Int
  e : Int
def wiB (n a b : Int) : Bool := decide (a ≤ n ∧ n ≤ b)
def leT (s : Sp) : Int := if s.e = 0 then s.x else s.c
def fitC (s : Sp) : Bool := wiB s.c 1 6
def fitT (s : Sp) : Bool := wiB s.t (leT s) s.x
def fitX (s : Sp) : Bool := wiB s.x s.c 48
def fitW (s : Sp) : Bool := mayB s.m s.k
def fitE (s : Sp) : Bool := wiB s.e 0 8
end Go.Proofs.Ytjaaabliefcgaaa
