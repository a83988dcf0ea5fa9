/- Lists of outcomes as they are read; walks of Of and of Bools. -/
import Derived.Test.YtiagcihghalomaaR7
namespace Go.Proofs.Ytiagcihghalomaa
open Go.RowKit

/-- A list of bools that is read. -/
def Row (w : World) (v : Value) (xs : List Bool) : Prop :=
  ∃ a cap, v = .slice a xs.length cap ∧ xs.length ≤ cap ∧ cap ≤ maxLen ∧ (xs ≠ [] → ∃ b o, a = some ⟨b, o, none⟩ ∧ ∀ i x, xs[i]? = some x → w.cell? ⟨b, o + i, none⟩ = some (.bool x))

theorem Row.later {w w' : World} {v : Value} {xs : List Bool} (h : Row w v xs) (hb : Below w.heap.size w w') : Row w' v xs := by
  obtain ⟨a, cap, rfl, h1, h2, h3⟩ := h
  refine ⟨a, cap, rfl, h1, h2, fun hx => ?_⟩
  obtain ⟨b, o, rfl, h4⟩ := h3 hx
  exact ⟨b, o, rfl, fun i x hi => cell_later hb (h4 i x hi)⟩

theorem bvs_at {xs : List Bool} {i : Nat} {x : Bool} (h : xs[i]? = some x) : (bvs xs)[i]? = some (.bool x) := by
  unfold bvs; rw [List.getElem?_map, h]; rfl

theorem Row.own {w : World} {base : Nat} {v : Value} {n : Nat} {xs : List Bool} (h : w.ownsRow base 4 1 v n (bvs xs)) (hn : n = xs.length) : Row w v xs := by
  subst hn
  have hcs := fun g hg => h.cells (g := g) hg
  obtain ⟨_, ⟨rfl, hz⟩ | ⟨g, cap, cur, rfl, hb, hh, h1, h2, _⟩⟩ := h
  · obtain rfl : xs = [] := List.eq_nil_of_length_eq_zero hz
    exact ⟨none, 0, rfl, by simp, by simp, fun h => absurd rfl h⟩
  · refine ⟨_, cap, rfl, h1, h2, fun _ => ⟨g, 0, rfl, fun i x hi => ?_⟩⟩
    have := hcs g rfl i _ (bvs_at hi)
    cases i with
    | zero => simpa [Addr.add] using this
    | succ i => simpa [Addr.add] using this

/-- What is left of outcomes when all are put. -/
def ofZ (xs : List Bool) : List Bool := xs.reverse.take 60

theorem ofZ_len (xs : List Bool) : (ofZ xs).length ≤ 60 := by unfold ofZ; simp; omega
theorem ofZ_put (xs : List Bool) (g : Bool) : (g :: ofZ xs).take 60 = ofZ (xs ++ [g]) := by
  unfold ofZ; rw [List.reverse_append]; simp [List.take_succ_cons, List.take_take]
theorem take_next {xs : List Bool} {j : Nat} {x : Bool} (h : xs[j]? = some x) : xs.take (j + 1) = xs.take j ++ [x] := by
  rw [List.take_add_one, h]; rfl

theorem put_ring (zs : List Bool) (g : Bool) (w : World) (hl : zs.length ≤ 60) :
    Calls Try.prog 11 #[.agg #[.int .i64 zs.length, .int .u64 (val zs)], .bool g] w fun e w' => e = .returned (ringV ((g :: zs).take 60)) ∧ Below w.heap.size w w' := by
  have := put_any zs.length (val zs) g w (by omega)
  rwa [ringOf_val hl] at this

/-- Two cells that may be written. -/
def Two (w : World) (b : Nat) (u v : Value) : Prop := w.cell? ⟨b, 0, none⟩ = some u ∧ w.cell? ⟨b, 1, none⟩ = some v ∧ w.frozen? ⟨b, 0, none⟩ = false ∧ w.frozen? ⟨b, 1, none⟩ = false
theorem Two.later {w w' : World} {b : Nat} {u v : Value} (h : Two w b u v) (hb : Below w.heap.size w w') : Two w' b u v := by
  obtain ⟨h0, h1, h2, h3⟩ := h
  have hl := World.block_lt_of_cell? _ _ h0
  exact ⟨cell_later hb h0, cell_later hb h1, (hb.frozen (p := ⟨b, 0, none⟩) hl).trans h2, (hb.frozen (p := ⟨b, 1, none⟩) hl).trans h3⟩
theorem Two.put {w : World} {b : Nat} {u v : Value} (h : Two w b u v) (u' v' : Value) : Two ((w.setCell ⟨b, 0, none⟩ u').setCell ⟨b, 1, none⟩ v') b u' v' := by
  obtain ⟨h0, h1, h2, h3⟩ := h
  refine ⟨?_, ?_, by simpa using h2, by simpa using h3⟩
  · rw [World.cell?_setCell_other _ _ _ _ (by simp)]; exact World.cell?_setCell_same _ _ _ h0
  · exact World.cell?_setCell_same (u := v) _ _ _ (by rw [World.cell?_setCell_other _ _ _ _ (by simp)]; exact h1)
theorem Two.other {w : World} {b c i : Nat} {u v : Value} (h : Two w b u v) (hc : c ≠ b) (x : Value) : Two (w.setCell ⟨c, i, none⟩ x) b u v := by
  obtain ⟨h0, h1, h2, h3⟩ := h
  exact ⟨by rw [World.cell?_setCell_other _ _ _ _ (fun h => hc (congrArg Addr.block h))]; exact h0, by rw [World.cell?_setCell_other _ _ _ _ (fun h => hc (congrArg Addr.block h))]; exact h1, by simpa using h2, by simpa using h3⟩

set_option maxHeartbeats 1000000 in
set_option maxRecDepth 100000 in
theorem of_any (xs : List Bool) (v : Value) (w : World) (h : Row w v xs) (hx : xs.length ≤ 1000) :
    Calls Try.prog 13 #[v] w fun e w' => e = .returned (ringV (ofZ xs)) ∧ Below w.heap.size w w' := by
  obtain ⟨a, cap, rfl, h1, h2, h3⟩ := h
  go_enter Try.func13, Try.ntmps13
  go_wp2_with fail
  go_loopw [8] (fun i wr => ∃ (j : Nat), j ≤ xs.length ∧ i = .int .i64 j ∧ Below w.heap.size w wr ∧ Two wr (w.heap.size + 1) (.int .i64 (ofZ (xs.take j)).length) (.int .u64 (val (ofZ (xs.take j)))) ∧ Two wr w.heap.size (.int .i64 0) (.int .u64 0)) (fun i _ => ((xs.length : Int) - intOf i).toNat)
  case atStart => exact ⟨0, by omega, rfl, ((Below.refl _ _).alloc (by simp) _).alloc (by simp) _, by simp [Two, ofZ, val], by simp [Two]⟩
  case round =>
    obtain ⟨j, hj, rfl, hbw, ht, hr⟩ := hrel
    have s1 := hbw.size
    by_cases hlt : (j : Int) < xs.length
    · obtain ⟨b, o, rfl, h4⟩ := h3 (by intro e; rw [e, List.length_nil] at hlt; omega)
      obtain ⟨x, hxj⟩ : ∃ x, xs[j]? = some x := ⟨_, List.getElem?_eq_getElem (by omega)⟩
      have hc := cell_later hbw (h4 j x hxj)
      have HX : Hid (xs[j]? = some x) := hxj
      clear hxj h4 h3
      have hl := ofZ_len (xs.take j)
      generalize hz : ofZ (xs.take j) = zs at *
      have HZ : Hid (ofZ (xs.take j) = zs) := hz
      clear hz
      obtain ⟨t0, t1, _, _⟩ := id ht
      go_wp2_with fail
      refine (put_ring zs x _ hl).mono ?_
      rintro e w3 ⟨rfl, hb3⟩
      have ht3 := ht.later hb3
      have hr3 := hr.later hb3
      clear ht hr
      obtain ⟨r0, r1, r2, r3⟩ := id ht3
      generalize hy : (x :: zs).take 60 = ys at *
      have HY : Hid ((x :: zs).take 60 = ys) := hy
      clear hy
      unfold ringV
      go_wp2_with fail
      go_roundw
      case rel =>
        have e : ofZ (xs.take (j + 1)) = ys := by rw [take_next HX.out, ← ofZ_put, HZ.out, HY.out]
        exact ⟨j + 1, by omega, by go_num, ((hbw.trans (hb3.mono s1)).setCell (by simp) _).setCell (by simp) _, by rw [e]; exact ht3.put _ _, (hr3.other (by omega) _).other (by omega) _⟩
      case measure => simp [intOf]; omega
    · have hjk : j = xs.length := by omega
      subst hjk
      rw [List.take_length] at ht
      obtain ⟨t0, t1, _, _⟩ := id ht
      obtain ⟨r0, r1, r2, r3⟩ := id hr
      go_wp2_with fail
      refine bodyPost_ret (v := ringV (ofZ xs)) ?_ rfl ⟨rfl, ?_⟩
      · simp [results, Try.results13, go_sem, ringV, r0, r1]
      · exact (hbw.setCell (by simp) _).setCell (by simp) _

set_option maxHeartbeats 1000000 in
set_option maxRecDepth 100000 in
theorem bools_eq (xs : List Bool) (u v : Value) (w : World) (h : Row w u xs) (h' : Row w v xs) (hx : xs.length ≤ 1000) :
    Calls Try.prog 15 #[u, v] w fun e w' => e = .returned (.bool true) ∧ Below w.heap.size w w' := by
  obtain ⟨a, cap, rfl, h1, h2, h3⟩ := h
  obtain ⟨a', cap', rfl, h1', h2', h3'⟩ := h'
  go_enter Try.func15, Try.ntmps15
  go_wp2_with fail
  go_loopw [5] (fun i wr => ∃ (j : Nat), j ≤ xs.length ∧ i = .int .i64 j ∧ Below w.heap.size w wr) (fun i _ => ((xs.length : Int) - intOf i).toNat)
  case atStart => exact ⟨0, by omega, rfl, Below.refl _ _⟩
  case round =>
    obtain ⟨j, hj, rfl, hbw⟩ := hrel
    by_cases hlt : (j : Int) < xs.length
    · have hne : xs ≠ [] := by intro e; rw [e, List.length_nil] at hlt; omega
      obtain ⟨b, o, rfl, h4⟩ := h3 hne
      obtain ⟨b', o', rfl, h4'⟩ := h3' hne
      obtain ⟨x, hxj⟩ : ∃ x, xs[j]? = some x := ⟨_, List.getElem?_eq_getElem (by omega)⟩
      have hc1 := cell_later hbw (h4 j x hxj)
      have hc2 := cell_later hbw (h4' j x hxj)
      clear hxj h4 h3 h4' h3'
      go_wp2_with fail
      go_region
      all_goals
        go_wp2_with fail
        go_roundw
        case rel => exact ⟨j + 1, by omega, by go_num, hbw.drew⟩
        case measure => simp [intOf]; omega
    · have hjk : j = xs.length := by omega
      subst hjk
      go_wp2_with fail
      go_ret
      exact ⟨rfl, hbw⟩
end Go.Proofs.Ytiagcihghalomaa
