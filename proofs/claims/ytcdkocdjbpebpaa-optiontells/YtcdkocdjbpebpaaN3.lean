/- The closure that the sort asks: is the option at i ahead of that at k? -/
import Derived.Test.YtcdkocdjbpebpaaN2
namespace Go.Proofs.Ytcdkocdjbpebpaa
open Go.RowKit
open Go.Sort (SWO swp HoldsK putRowK PermIn SortedIn)

set_option maxHeartbeats 2000000 in
set_option maxRecDepth 100000 in
theorem less_at14 {Bs B o n c : Nat} {ty : Value} {w : World} {d : Array (Int × Int × Int)} (h : Srt Bs B o n c ty w d) (i j : Nat) (I J : Int) (eI : I = i) (eJ : J = j) (hi : i < n) (hj : j < n) :
    Calls Try.prog 30 #[.int .i64 I, .int .i64 J, .pointer (some ⟨Bs, 0, none⟩)] w fun e w' => e = .returned (.bool (ltO d[i]! d[j]!)) ∧ Below w.heap.size w w' := by
  subst eI eJ
  obtain ⟨x0, x1, x2⟩ := h.at i hi
  obtain ⟨y0, y1, y2⟩ := h.at j hj
  have hv := h.var
  have hsm := h.small
  generalize d[i]! = p at *
  generalize d[j]! = q at *
  obtain ⟨a, b, e⟩ := p
  obtain ⟨f, g, k⟩ := q
  clear h
  have MK : Hid (∀ w' : World, Below w.heap.size w w' → (w'.cell? ⟨Bs, 0, none⟩ = some (.slice (some ⟨B, o, none⟩) n c) ∧ w'.cell? ⟨B, o + i * 3, none⟩ = some (.int .i64 a) ∧ w'.cell? ⟨B, o + i * 3 + 1, none⟩ = some (.int .i64 b) ∧ w'.cell? ⟨B, o + i * 3 + 2, none⟩ = some (.int .i64 e) ∧ w'.cell? ⟨B, o + j * 3, none⟩ = some (.int .i64 f) ∧ w'.cell? ⟨B, o + j * 3 + 1, none⟩ = some (.int .i64 g) ∧ w'.cell? ⟨B, o + j * 3 + 2, none⟩ = some (.int .i64 k)) ∧ Below w.heap.size w w') :=
    fun w' hb => ⟨⟨cell_later hb hv, cell_later hb x0, cell_later hb x1, cell_later hb x2, cell_later hb y0, cell_later hb y1, cell_later hb y2⟩, hb⟩
  clear hv x0 x1 x2 y0 y1 y2
  have hi' : (i : Int) < n := by omega
  have hj' : (j : Int) < n := by omega
  go_enter Try.func30, Try.ntmps30
  go_wp2_with fail
  go_region_held3 (fun w' => (w'.cell? ⟨Bs, 0, none⟩ = some (.slice (some ⟨B, o, none⟩) n c) ∧ w'.cell? ⟨B, o + i * 3, none⟩ = some (.int .i64 a) ∧ w'.cell? ⟨B, o + i * 3 + 1, none⟩ = some (.int .i64 b) ∧ w'.cell? ⟨B, o + i * 3 + 2, none⟩ = some (.int .i64 e) ∧ w'.cell? ⟨B, o + j * 3, none⟩ = some (.int .i64 f) ∧ w'.cell? ⟨B, o + j * 3 + 1, none⟩ = some (.int .i64 g) ∧ w'.cell? ⟨B, o + j * 3 + 2, none⟩ = some (.int .i64 k)) ∧ Below w.heap.size w w')
    (first | exact MK.out _ (bstep (by assumption) (sBel (by assumption))) | exact MK.out _ (Below.refl _ _).drew)
    (first | (go_at_call 11; refine (less14_any a b e f g k _).mono ?_; rintro r w3 ⟨rfl, hb3⟩))
  all_goals
    go_wp2
    go_ret
    exact ⟨rfl, sBel (by assumption)⟩
end Go.Proofs.Ytcdkocdjbpebpaa
