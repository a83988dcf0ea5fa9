/- Walks of the document's own List, Good and what it counts. -/
import Derived.Test.YtiagcihghalomaaT1
namespace Go.Proofs.Ytiagcihghalomaa
open Go.RowKit

theorem own_base {w : World} {b b' n : Nat} {e : TypeId} {size : Nat} {v : Value} {xs : List Value} (h : w.ownsRow b' e size v n xs) (hb : b ≤ b') : w.ownsRow b e size v n xs := by
  obtain ⟨h0, h1 | ⟨g, cap, cur, rfl, h2, h3, h4⟩⟩ := h
  · exact ⟨h0, .inl h1⟩
  · exact ⟨h0, .inr ⟨g, cap, cur, rfl, by omega, h3, h4⟩⟩

theorem drop_next {zs : List Bool} {j : Nat} {x : Bool} (h : zs[j]? = some x) : zs.drop j = x :: zs.drop (j + 1) := by
  obtain ⟨hj, rfl⟩ := List.getElem?_eq_some_iff.1 h
  exact List.drop_eq_getElem_cons hj

set_option maxHeartbeats 1000000 in
set_option maxRecDepth 100000 in
theorem refList_any (N B : Int) (w : World) (b0 : 0 ≤ B) :
    Calls Try.prog 17 #[.agg #[.int .i64 N, .int .u64 B]] w fun e w' => ∃ v, e = .returned v ∧ w'.ownsRow w.heap.size 4 1 v (ringOf N B).length (bvs (ringOf N B).reverse) ∧ Below w.heap.size w w' := by
  cases h : mayR N B
  · have H : Hid (mayR N B = false) := h
    have H0 : Hid (ringOf N B = []) := ringOf_no h
    clear h
    go_enter Try.func17, Try.ntmps17
    go_wp2_with fail
    refine (refMay3_any _ _ _ b0).mono ?_
    rintro e w1 ⟨rfl, hb1⟩
    rw [H.out]
    go_wp2
    go_ret
    exact ⟨_, rfl, by rw [H0.out]; exact World.ownsRow_nil _ _ _ _, ((Below.refl _ _).alloc (by simp) _).trans (hb1.mono (by simp))⟩
  · have H : Hid (mayR N B = true) := h
    obtain ⟨e1, e2⟩ := ring_open h b0
    have hl := ringOf_len N B
    clear h
    generalize hz : ringOf N B = zs at *
    have HZ : Hid (ringOf N B = zs) := hz
    clear hz
    subst e1 e2
    have hv := val_bd hl
    go_enter Try.func17, Try.ntmps17
    go_wp2_with fail
    refine (refMay3_any _ _ _ b0).mono ?_
    rintro e w1 ⟨rfl, hb1⟩
    rw [H.out]
    have c0 : w1.cell? ⟨w.heap.size, 0, none⟩ = some (.int .i64 zs.length) := (hb1.cell (p := ⟨w.heap.size, 0, none⟩) (by simp)).trans (by simp)
    have c1 : w1.cell? ⟨w.heap.size, 1, none⟩ = some (.int .u64 (val zs)) := (hb1.cell (p := ⟨w.heap.size, 1, none⟩) (by simp)).trans (by simp)
    have hb : Below w.heap.size w w1 := ((Below.refl _ _).alloc (by simp) _).trans (hb1.mono (by simp))
    have s1 := hb.size
    clear hb1
    go_wp2_with fail
    go_loopw [3, 5, 6] (fun u x i wr => ∃ (j : Nat), j ≤ zs.length ∧ x = .int .u64 (val (zs.drop j)) ∧ i = .int .i64 j ∧ wr.ownsRow w1.heap.size 4 1 u j (bvs (zs.take j).reverse) ∧ Below w1.heap.size w1 wr) (fun _ _ i _ => ((zs.length : Int) - intOf i).toNat)
    case atStart => exact ⟨0, by omega, rfl, rfl, by simpa [bvs] using World.ownsRow_nil _ _ _ _, Below.refl _ _⟩
    case round =>
      obtain ⟨j, hj, rfl, rfl, hown, hbw⟩ := hrel
      have e0 := cell_later hbw c0
      have s3 := hbw.size
      by_cases hlt : (j : Int) < zs.length
      · obtain ⟨x, hxj⟩ : ∃ x, zs[j]? = some x := ⟨_, List.getElem?_eq_getElem (by omega)⟩
        have hd := drop_next hxj
        have HT : Hid ((zs.take (j + 1)).reverse = [x] ++ (zs.take j).reverse) := by show _ = _; rw [take_next hxj]; simp
        have hdl := val_bd (zs := zs.drop j) (by simp; omega)
        have hx2 := toNat_lt x
        have hm : ((val (zs.drop j) : Int) % 2 == 1) = x := by
          rw [hd]; simp only [val]; cases x <;> simp <;> omega
        have hq : (val (zs.drop j) : Int) / 2 = val (zs.drop (j + 1)) := by
          rw [hd]; simp only [val]; omega
        clear hd hxj
        generalize zs.drop j = dj at *
        have hown1 := hown.alloc (.cells #[.bool x] 4)
        have hown2 := World.ownsRow_lit (base := w1.heap.size) (e := 4) (size := 1) wr #[.bool x] 1 s3 (by unfold maxLen; omega) rfl
        have hrow := Row.own hown1 (by simp; omega)
        have hcap := own_cap hown1
        clear hown
        go_wp2_with (first
          | (at_builtin; refine append_row rfl _ _ rfl w1.heap.size _ _ 1 [x] _ rfl hown2 rfl hrow hcap (by simp; omega) (by simp; omega) ?_))
        intro v' w4 hown' hb4
        have hown4 : w4.ownsRow w1.heap.size 4 1 v' (j + 1) (bvs (zs.take (j + 1)).reverse) := by
          rw [HT.out, Nat.add_comm j 1]; exact hown'
        have hb5 : Below w1.heap.size w1 w4 := (hbw.alloc s3 _).trans hb4
        clear hown' hown1 hown2 hrow hcap
        go_wp2_with fail
        go_roundw
        case rel => exact ⟨j + 1, by omega, rfl, by go_num, hown4, hb5⟩
        case measure => simp [intOf]; omega
      · obtain rfl : j = zs.length := by omega
        rw [List.take_length] at hown
        go_wp2_with fail
        go_ret
        exact ⟨_, rfl, own_base hown s1, hb.trans (hbw.mono s1)⟩

/-- How many of a list's last n are good. -/
def lastG (ls : List Bool) (n : Int) (j : Nat) : Nat := cnt (fun i => ls.getD i false && decide ((ls.length : Int) - n ≤ i)) 0 j

set_option maxHeartbeats 1000000 in
set_option maxRecDepth 100000 in
theorem refCount3_any (ls : List Bool) (v : Value) (n : Int) (w : World) (h : Row w v ls) (hl : ls.length ≤ 1000) (n0 : 0 ≤ n) (n1 : n ≤ 1000) :
    Calls Try.prog 29 #[v, .int .i64 n] w fun e w' => e = .returned (.int .i64 (lastG ls n ls.length)) ∧ w' = w := by
  obtain ⟨a, cap, rfl, r1, r2, r3⟩ := h
  unfold maxLen at r2
  go_enter Try.func29, Try.ntmps29
  go_wp2_with fail
  go_loop [5, 6] (fun x i => ∃ (j : Nat), j ≤ ls.length ∧ x = .int .i64 (lastG ls n j) ∧ i = .int .i64 j) (fun _ i => ((ls.length : Int) - intOf i).toNat)
  case atStart => exact ⟨0, by omega, rfl, rfl⟩
  case round =>
    obtain ⟨j, hj, rfl, rfl⟩ := hrel
    have hg : lastG ls n j ≤ j := cnt_le _ _ _
    by_cases hlt : (j : Int) < ls.length
    · obtain ⟨b, o, rfl, r4⟩ := r3 (by intro e; rw [e, List.length_nil] at hlt; omega)
      obtain ⟨x, hxj⟩ : ∃ x, ls[j]? = some x := ⟨_, List.getElem?_eq_getElem (by omega)⟩
      have hc := r4 j x hxj
      have HS : Hid (lastG ls n (j + 1) = lastG ls n j + (x && decide ((ls.length : Int) - n ≤ j)).toNat) := by
        show _ = _; simp only [lastG, cnt]; rw [Nat.zero_add]; simp [List.getD, hxj]
      clear r3 r4 hxj
      generalize lastG ls n j = q at *
      by_cases hge : (ls.length : Int) - n ≤ j
      · rw [decide_eq_true hge] at HS
        cases x
        · go_wp2_with fail
          go_round
          case rel => exact ⟨j + 1, by omega, by rw [HS.out]; rfl, by go_num⟩
          case measure => simp [intOf]; omega
        · go_wp2_with fail
          go_round
          case rel => exact ⟨j + 1, by omega, by rw [HS.out]; rfl, by go_num⟩
          case measure => simp [intOf]; omega
      · rw [decide_eq_false hge] at HS
        cases x
        · go_wp2_with fail
          go_round
          case rel => exact ⟨j + 1, by omega, by rw [HS.out]; rfl, by go_num⟩
          case measure => simp [intOf]; omega
        · go_wp2_with fail
          go_round
          case rel => exact ⟨j + 1, by omega, by rw [HS.out]; rfl, by go_num⟩
          case measure => simp [intOf]; omega
    · obtain rfl : j = ls.length := by omega
      clear r3
      go_wp2_with fail
      go_ret
      exact ⟨rfl, rfl⟩
end Go.Proofs.Ytiagcihghalomaa
