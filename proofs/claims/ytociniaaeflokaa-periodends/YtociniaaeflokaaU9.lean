/- Lists of integers of the call's own, that are appended to; what is appended to keeps what it had. -/
import Derived.Test.YtociniaaeflokaaU1
import Derived.Laws.AppendOwnNone
namespace Go.Proofs.Ytociniaaeflokaa
open Go.RowKit

def ivs (xs : List Int) : List Value := xs.map (Value.int .i64)
theorem ivs_len (xs : List Int) : (ivs xs).length = xs.length := by simp [ivs]
theorem ivs_app (xs ys : List Int) : ivs (xs ++ ys) = ivs xs ++ ivs ys := by simp [ivs]
theorem ivs_one (xs : List Int) : ∀ u ∈ ivs xs, u.oneCell' = true := by
  intro u hu; obtain ⟨t, _, rfl⟩ := List.mem_map.1 hu; rfl
theorem ivs_at {xs : List Int} {i : Nat} (h : i < xs.length) : (ivs xs)[i]? = some (.int .i64 (xs.getD i 0)) := by
  unfold ivs; rw [List.getElem?_map, List.getElem?_eq_getElem h]; simp [List.getD, h]

/-- Is a list without memory without room, too? -/
def NilCap (v : Value) : Prop := ∀ c, v = .slice none 0 c → c = 0

/-- Integers of the call's own are read. -/
theorem Nums.own {w : World} {base : Nat} {v : Value} {n : Nat} {xs : List Int} (h : w.ownsRow base 3 1 v n (ivs xs)) : Nums w v xs ∧ NilCap v ∧ n = xs.length := by
  have hn : n = xs.length := by have := h.1; rw [ivs_len] at this; omega
  subst hn
  have hcs := fun g hg => h.cells (g := g) hg
  obtain ⟨_, ⟨rfl, hz⟩ | ⟨g, cap, cur, rfl, hb, hh, h1, h2, _⟩⟩ := h
  · obtain rfl : xs = [] := List.eq_nil_of_length_eq_zero hz
    exact ⟨⟨none, 0, rfl, by simp, by simp, fun h => absurd rfl h⟩, fun c hc => by simpa using hc.symm, rfl⟩
  · refine ⟨⟨_, cap, rfl, h1, h2, fun _ => ⟨g, 0, rfl, fun i hi => ?_⟩⟩, fun c hc => by simp at hc, rfl⟩
    have := hcs g rfl i _ (ivs_at hi)
    cases i with
    | zero => simpa [Addr.add] using this
    | succ i => simpa [Addr.add] using this

theorem Try.infoInt : (Try.prog.info? 3).map (fun i => (i.zero, i.size, i.bytes)) = some (some (.int .i64 0), 1, 8) := by kernel_rfl
end Go.Proofs.Ytociniaaeflokaa
