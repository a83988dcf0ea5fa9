/- Walks of the library's heap: up. -/
import Derived.Test.YtjaaabliefcgaaaH5
namespace Go.Proofs.Ytjaaabliefcgaaa
open Go.RowKit
theorem len_any (a : Option Addr) (n c : Nat) (w : World) : Calls Try.prog 47 #[.slice a n c] w fun e w' => e = .returned (.int .i64 n) ∧ w' = w := by
  go_enter Try.func47, Try.ntmps47
  go_wp2
  go_ret
  exact ⟨rfl, rfl⟩
theorem down_at (B p cap A i0 n : Nat) (I M : Int) (a : Option Addr) (xs : List (Int × Int)) (w : World) (h : Hp B w p a cap xs) (eI : I = i0) (eM : M = n) (hx : xs.length ≤ 1000) (hn : n ≤ xs.length) (hi : i0 ≤ n) (hd : dn A i0 n xs i0) (hA : A ≤ i0) :
    Calls Try.prog 53 #[.iface 62 (.pointer (some ⟨p, 0, none⟩)), .int .i64 I, .int .i64 M] w (DownE B p cap A i0 n a xs w) := by
  subst eI eM; exact down_any B p cap A i0 n a xs w h hx hn hi hd hA
end Go.Proofs.Ytjaaabliefcgaaa
