/- Walks of package job: what is left, what it has come to, what stays. -/
import Derived.Test.YtcdkocdjbpebpaaJ2
namespace Go.Proofs.Ytcdkocdjbpebpaa
open Go.RowKit

/-- What is left of a length. -/
def rstV (l x : Int) : Int := if x < l then l - x else 0
theorem rest_any (l x : Int) (w : World) (h : IntKind.i64.wrap (l - x) = l - x) :
    Calls Try.prog 35 #[.int .i64 l, .int .i64 x] w fun e w' => e = .returned (.int .i64 (rstV l x)) ∧ w' = w := by
  by_cases c : x < l
  · have H : Hid (rstV l x = l - x) := if_pos c
    have c' : ¬ l ≤ x := by omega
    go_enter Try.func35, Try.ntmps35
    go_wp2
    go_ret
    exact ⟨ret_i H.out.symm, rfl⟩
  · have H : Hid (rstV l x = 0) := if_neg c
    have c' : l ≤ x := by omega
    clear h
    go_enter Try.func35, Try.ntmps35
    go_wp2
    go_ret
    exact ⟨ret_i H.out.symm, rfl⟩
/-- What a job has come to, when it has run once more. -/
def cmtV (c d x : Int) : Int := (if c ≤ x + 1 then 1 else 0) + (if d ≤ x + 1 then 2 else 0)
/-- What stays of a job by its fate. -/
def aftJ (j : Jb) (f : Int) : Jb := if f = 0 then j else jbZ
end Go.Proofs.Ytcdkocdjbpebpaa
