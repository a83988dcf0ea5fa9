/- Texts that belong together, one behind the other: BB1, BB2, BB4, BB3, BB5. -/
import Derived.Test.YteklcolphbcjlaaQ9
import Derived.Laws.BitsLemmas
import Derived.Deep.RegionWith
import Derived.Deep.RegionHeld3
/- Walks of package wire: within, digits, number. -/
namespace Go.Proofs.Yteklcolphbcjlaa
open Go.RowKit

def wtB (n lo hi : Int) : Bool := decide (lo ≤ n ∧ n ≤ hi)
theorem wtn_any (n lo hi : Int) (w : World) :
    Calls Try.prog 28 #[.int .i64 n, .int .i64 lo, .int .i64 hi] w fun e w' => e = .returned (.bool (wtB n lo hi)) ∧ w' = w := by
  by_cases c0 : lo ≤ n
  · have H : Hid (wtB n lo hi = decide (n ≤ hi)) := by show _ = _; unfold wtB; simp [c0]
    go_enter Try.func28, Try.ntmps28
    go_wp2
    go_ret
    exact ⟨ret_b H.out.symm, rfl⟩
  · have H : Hid (wtB n lo hi = false) := by show _ = _; unfold wtB; simp [c0]
    go_enter Try.func28, Try.ntmps28
    go_wp2
    go_ret
    exact ⟨ret_b H.out.symm, rfl⟩
/-- A number's bytes, of which the last ones are written. -/
def dgP (n : Int) (S i : Nat) : List Int := (List.range S).map fun j => if S - i ≤ j then n / 256 ^ (S - 1 - j) % 256 else 0
theorem dgP_len (n : Int) (S i : Nat) : (dgP n S i).length = S := by simp [dgP]
theorem dgP_zero (n : Int) (S : Nat) : dgP n S 0 = List.replicate S 0 := by
  refine List.ext_getElem (by simp [dgP]) fun j h1 h2 => ?_
  have : j < S := by simpa [dgP] using h1
  simp [dgP]
  omega
theorem dgP_set (n : Int) (S i : Nat) (h : i < S) : (dgP n S i).set (S - 1 - i) (n / 256 ^ i % 256) = dgP n S (i + 1) := by
  refine List.ext_getElem (by simp [dgP]) fun j h1 h2 => ?_
  have hj : j < S := by simpa [dgP] using h2
  rw [List.getElem_set]
  by_cases e : S - 1 - i = j
  · rw [if_pos e]
    have e2 : S - 1 - j = i := by omega
    simp only [dgP, List.getElem_map, List.getElem_range, e2]
    rw [if_pos (by omega)]
  · rw [if_neg e]
    simp only [dgP, List.getElem_map, List.getElem_range]
    by_cases c : S - i ≤ j
    · rw [if_pos c, if_pos (by omega)]
    · rw [if_neg c, if_neg (by omega)]
theorem bv8_set (xs : List Int) (j : Nat) (x : Int) : (bv8 xs).set j (.int .u8 x) = bv8 (xs.set j x) := by simp [bv8, List.map_set]
theorem ediv_shift (n : Int) (i : Nat) : n / 256 ^ i / 256 = n / 256 ^ (i + 1) := by
  rw [Int.pow_succ, Int.ediv_ediv_of_nonneg (Int.pow_nonneg (by omega))]
def DgE (n : Int) (S : Nat) (w : World) (e : Ending) (w' : World) : Prop := ∃ v, e = .returned v ∧ OwY w' w.heap.size v (dgP n S S) ∧ Below w.heap.size w w'
set_option maxHeartbeats 2000000 in
set_option maxRecDepth 100000 in
theorem digits_any (n : Int) (S : Nat) (h1 : 1 ≤ S) (h8 : S ≤ 8) (w : World) :
    Calls Try.prog 22 #[.int .i64 n, .int .i64 S] w (DgE n S w) := by
  have HS : Hid (1 ≤ S ∧ S ≤ 8) := ⟨h1, h8⟩
  clear h1 h8
  obtain ⟨i0, hi, hz0, hz1, hz2⟩ := info_parts Try.infoU8
  go_enter Try.func22, Try.ntmps22
  go_wp2_with (first
    | (at_make; refine wpList_make_full _ rfl _ _ 27 rfl w.heap.size 5 i0 (.int .u8 0) 1 Try.underlying27 hi hz0 hz1 .i64 .i64 S S S rfl rfl rfl rfl (by rw [hz2]; have := HS.out; omega) (by have := HS.out; unfold maxLen; omega) (Nat.le_refl _) ?_; intro w2 hown hgrow))
  have HT : Hid (w2.ownsRow w.heap.size 5 1 (.slice (some ⟨w.heap.size, 0, none⟩) S S) S (bv8 (dgP n S 0)) ∧ Below w.heap.size w w2) := by
    refine ⟨?_, (Below.refl _ _).grown hgrow (Nat.le_refl _) (by intro k hk; cases hk)⟩
    have e : bv8 (dgP n S 0) = (madeCells (Value.cells (.int .u8 0)) (S * 1)).toList := by
      rw [dgP_zero, show Value.cells (.int .u8 0) = #[.int .u8 0] from rfl, Nat.mul_one, toList_madeCells_one]
      simp [bv8]
    rw [e]; exact hown
  clear hown hgrow i0 hi hz0 hz1 hz2
  go_loopw [0, 10] (fun nv iv wr => ∃ i : Nat, i ≤ S ∧ nv = .int .i64 (n / 256 ^ i) ∧ iv = .int .i64 i ∧ Hid (wr.ownsRow w.heap.size 5 1 (.slice (some ⟨w.heap.size, 0, none⟩) S S) S (bv8 (dgP n S i)) ∧ Below w.heap.size w wr)) (fun _ iv _ => (S - intOf iv).toNat)
  case atStart => exact ⟨0, by omega, by simp, by go_num, HT⟩
  case round =>
    obtain ⟨i, hi, rfl, rfl, HX⟩ := hrel
    by_cases hlt : i < S
    · have hlt' : (i : Int) < S := by omega
      have hS := HS.out
      obtain ⟨j, hj⟩ : ∃ j, S - 1 - i = j := ⟨_, rfl⟩
      have w1 : IntKind.i64.wrap ((S : Int) - 1) = (S : Int) - 1 := by rw [IntKind.wrap_i64]; omega
      have w2 : IntKind.i64.wrap ((S : Int) - 1 - i) = (j : Int) := by rw [IntKind.wrap_i64]; omega
      have hjS : (j : Int) < S := by omega
      obtain ⟨m, hm⟩ : ∃ m, n / 256 ^ i = m := ⟨_, rfl⟩
      have w3 : IntKind.u8.wrap m = m % 256 := by rw [IntKind.wrap_u8]
      have c1 : wr.cell? ⟨w.heap.size, j, none⟩ = some (.int .u8 0) := by
        rw [HX.out.1.cellAt j (by omega), bv8_at (by rw [dgP_len]; omega)]
        have : (dgP n S i).getD j 0 = 0 := by
          unfold dgP
          rw [List.getD_eq_getElem?_getD, List.getElem?_map, List.getElem?_range (by omega)]
          simp; omega
        rw [this]
      have f1 : wr.frozen? ⟨w.heap.size, j, none⟩ = false := HX.out.1.frozenAt j
      have HY : Hid ((wr.setCell ⟨w.heap.size, j, none⟩ (.int .u8 (m % 256))).ownsRow w.heap.size 5 1 (.slice (some ⟨w.heap.size, 0, none⟩) S S) S (bv8 (dgP n S (i + 1))) ∧ Below w.heap.size w (wr.setCell ⟨w.heap.size, j, none⟩ (.int .u8 (m % 256)))) := by
        refine ⟨?_, HX.out.2.setCell (p := ⟨w.heap.size, j, none⟩) (Nat.le_refl _) _⟩
        have := HX.out.1.stored j (.int .u8 (m % 256))
        rw [bv8_set, ← hj, ← hm, dgP_set n S i hlt] at this
        rw [← hj, ← hm]; exact this.1
      have HM : Hid (m / 256 = n / 256 ^ (i + 1)) := by show _ = _; rw [← hm, ediv_shift]
      rw [hm]
      have hi8 : (i : Int) < 8 := by omega
      clear hm HX hS hj
      go_wp2_with fail
      go_roundw
      case rel => exact ⟨i + 1, by omega, by rw [← HM.out], by go_num, HY⟩
      case measure => simp [intOf]; omega
    · obtain rfl : i = S := by omega
      have hlt' : ¬ ((i : Int) < i) := by omega
      go_wp2_with fail
      go_ret
      exact ⟨_, rfl, by unfold OwY; rw [dgP_len]; exact HX.out.1, HX.out.2⟩
/-- What bytes tell, the greatest first: the first ones of them. -/
def nuP (xs : List Int) : Nat → Int
  | 0 => 0
  | i + 1 => nuP xs i * 256 + xs.getD i 0
theorem nuP_bd {xs : List Int} (h : ∀ i, i < xs.length → 0 ≤ xs.getD i 0 ∧ xs.getD i 0 ≤ 255) : ∀ i, i ≤ xs.length → 0 ≤ nuP xs i ∧ nuP xs i < 256 ^ i
  | 0, _ => by simp [nuP]
  | i + 1, hi => by
    obtain ⟨h1, h2⟩ := nuP_bd h i (by omega)
    obtain ⟨h3, h4⟩ := h i (by omega)
    show 0 ≤ nuP xs i * 256 + xs.getD i 0 ∧ nuP xs i * 256 + xs.getD i 0 < 256 ^ (i + 1)
    rw [Int.pow_succ]
    omega
theorem or_join {p x : Int} (h0 : 0 ≤ p) (h1 : p < 1099511627776) (h2 : 0 ≤ x) (h3 : x ≤ 255) : bits BinOp.or IntKind.i64 (p * 256) x = p * 256 + x :=
  bits_join .i64 62 (by decide) (fun n hn hn' => by rw [IntKind.wrap_i64]; have : n < 4611686018427387904 := hn'; omega) 8 (p * 256) x (by omega) (by show p * 256 % 256 = 0; omega) (by show p * 256 < 4611686018427387904; omega) h2 (by show x < 256; omega) (by show x < 4611686018427387904; omega)
set_option maxHeartbeats 2000000 in
set_option maxRecDepth 100000 in
theorem number_any (xs : List Int) (v : Value) (w : World) (h : Bys w v xs) (hl : xs.length ≤ 6) :
    Calls Try.prog 26 #[v] w fun e w' => e = .returned (.int .i64 (nuP xs xs.length)) ∧ w' = w := by
  obtain ⟨a, cap, rfl, h1, h2, h3, h4, h5⟩ := h
  have HD : Hid ((∀ i, i < xs.length → 0 ≤ xs.getD i 0 ∧ xs.getD i 0 ≤ 255) ∧ xs.length ≤ 6) := ⟨h4, hl⟩
  clear h4 h3 hl
  go_enter Try.func26, Try.ntmps26
  go_wp2_with fail
  go_loopw [3, 7] (fun nv iv wr => ∃ i : Nat, i ≤ xs.length ∧ nv = .int .i64 (nuP xs i) ∧ iv = .int .i64 i ∧ Hid (wr = w)) (fun _ iv _ => (xs.length - intOf iv).toNat)
  case atStart => exact ⟨0, by omega, by first | rfl | simp [nuP], by go_num, rfl⟩
  case round =>
    obtain ⟨i, hi, rfl, rfl, HX⟩ := hrel
    by_cases hlt : i < xs.length
    · have hlt' : (i : Int) < xs.length := by omega
      have hi6 : (i : Int) < 6 := by have := HD.out.2; omega
      obtain ⟨b, o, rfl, h6⟩ := h5 (by intro e; rw [e] at hlt; simp at hlt)
      have e0 : wr.cell? ⟨b, o + i, none⟩ = some (.int .u8 (xs.getD i 0)) := by rw [HX.out]; exact h6 i hlt
      obtain ⟨p, hp⟩ : ∃ p, nuP xs i = p := ⟨_, rfl⟩
      obtain ⟨x, hxx⟩ : ∃ x, xs.getD i 0 = x := ⟨_, rfl⟩
      have bp := nuP_bd HD.out.1 i hi
      have bx := HD.out.1 i hlt
      have HPN : Hid (nuP xs (i + 1) = p * 256 + x) := by show _ = _; rw [← hp, ← hxx]; rfl
      have hpw : (256 : Int) ^ i ≤ 256 ^ 5 := by
        have : (256 : Nat) ^ i ≤ 256 ^ 5 := Nat.pow_le_pow_right (by omega) (by omega)
        have h := Int.ofNat_le.2 this
        simpa using h
      rw [hp] at bp
      rw [hxx] at bx e0
      have bp2 : p < 1099511627776 := by have := bp.2; omega
      have bp1 := bp.1
      have wx : IntKind.i64.wrap x = x := by rw [IntKind.wrap_i64]; omega
      rw [hp]
      clear hp hxx bp h5 h6 hpw
      go_wp2_with fail
      go_roundw
      case rel => exact ⟨i + 1, by omega, by rw [HPN.out, or_join bp1 bp2 bx.1 bx.2], by go_num, HX⟩
      case measure => simp [intOf]; omega
    · obtain rfl : i = xs.length := by omega
      have hlt' : ¬ ((xs.length : Int) < xs.length) := by omega
      go_wp2_with fail
      go_ret
      exact ⟨rfl, HX.out⟩
end Go.Proofs.Yteklcolphbcjlaa
/- Walks of package wire: what stands in a part that is one number. -/
namespace Go.Proofs.Yteklcolphbcjlaa
open Go.RowKit

/-- A function tells where a number stands. -/
def AtK (K c : Nat) : Prop := (∀ (xs : Array Value) (w : World), (callFunc K xs).run Try.prog w = .ok (.enter K xs) w) ∧ ∀ (b : Nat) (w : World), Calls Try.prog K #[.pointer (some ⟨b, 0, none⟩)] w fun e w' => e = .returned (.pointer (some ⟨b, c, none⟩)) ∧ w' = w
theorem at16_0 : AtK 34 2 := by
  refine ⟨fun xs w => by kernel_rfl, fun b w => ?_⟩
  go_enter Try.func34, Try.ntmps34
  go_wp2
  go_ret
  exact ⟨rfl, rfl⟩
theorem at16_1 : AtK 35 3 := by
  refine ⟨fun xs w => by kernel_rfl, fun b w => ?_⟩
  go_enter Try.func35, Try.ntmps35
  go_wp2
  go_ret
  exact ⟨rfl, rfl⟩
theorem at16_2 : AtK 36 4 := by
  refine ⟨fun xs w => by kernel_rfl, fun b w => ?_⟩
  go_enter Try.func36, Try.ntmps36
  go_wp2
  go_ret
  exact ⟨rfl, rfl⟩
theorem at16_3 : AtK 37 5 := by
  refine ⟨fun xs w => by kernel_rfl, fun b w => ?_⟩
  go_enter Try.func37, Try.ntmps37
  go_wp2
  go_ret
  exact ⟨rfl, rfl⟩
theorem at16_4 : AtK 38 6 := by
  refine ⟨fun xs w => by kernel_rfl, fun b w => ?_⟩
  go_enter Try.func38, Try.ntmps38
  go_wp2
  go_ret
  exact ⟨rfl, rfl⟩
theorem at16_5 : AtK 39 7 := by
  refine ⟨fun xs w => by kernel_rfl, fun b w => ?_⟩
  go_enter Try.func39, Try.ntmps39
  go_wp2
  go_ret
  exact ⟨rfl, rfl⟩
theorem at16_6 : AtK 40 1 := by
  refine ⟨fun xs w => by kernel_rfl, fun b w => ?_⟩
  go_enter Try.func40, Try.ntmps40
  go_wp2
  go_ret
  exact ⟨rfl, rfl⟩
theorem at16_7 : AtK 41 8 := by
  refine ⟨fun xs w => by kernel_rfl, fun b w => ?_⟩
  go_enter Try.func41, Try.ntmps41
  go_wp2
  go_ret
  exact ⟨rfl, rfl⟩
theorem at16_8 : AtK 42 9 := by
  refine ⟨fun xs w => by kernel_rfl, fun b w => ?_⟩
  go_enter Try.func42, Try.ntmps42
  go_wp2
  go_ret
  exact ⟨rfl, rfl⟩
theorem at16_9 : AtK 43 10 := by
  refine ⟨fun xs w => by kernel_rfl, fun b w => ?_⟩
  go_enter Try.func43, Try.ntmps43
  go_wp2
  go_ret
  exact ⟨rfl, rfl⟩
theorem at16_10 : AtK 44 11 := by
  refine ⟨fun xs w => by kernel_rfl, fun b w => ?_⟩
  go_enter Try.func44, Try.ntmps44
  go_wp2
  go_ret
  exact ⟨rfl, rfl⟩
theorem at16_11 : AtK 45 12 := by
  refine ⟨fun xs w => by kernel_rfl, fun b w => ?_⟩
  go_enter Try.func45, Try.ntmps45
  go_wp2
  go_ret
  exact ⟨rfl, rfl⟩
def oL (o : Ow) (dv : Value) : List Value := [.int .i64 o.k, .int .i64 o.id, .int .i64 o.s.c, .int .i64 o.s.t, .int .i64 o.s.x, .int .i64 o.s.m, .int .i64 o.s.k, .int .i64 o.s.e, .int .i64 o.t, .int .i64 o.m, .int .i64 o.w, .int .i64 o.c, .int .i64 o.v, dv]
set_option maxHeartbeats 2000000 in
set_option maxRecDepth 100000 in
theorem wmay_any (K c : Nat) (hK : AtK K c) (S : Nat) (T : Int) (hS : (S = 1 ∧ T = 255) ∨ (S = 2 ∧ T = 65535)) (ok oid ec et ex em ek ee ot om ow oc ov : Int) (dv : Value) (n : Int) (q : Nat) (w : World) (hn : [.int .i64 ok, .int .i64 oid, .int .i64 ec, .int .i64 et, .int .i64 ex, .int .i64 em, .int .i64 ek, .int .i64 ee, .int .i64 ot, .int .i64 om, .int .i64 ow, .int .i64 oc, .int .i64 ov, dv][c]? = some (Value.int .i64 n))
    (hq : w.cell? ⟨q, 0, none⟩ = some (.int .i64 S)) (hf : w.cell? ⟨q + 1, 0, none⟩ = some (.func (.func K) #[] #[])) :
    Calls Try.prog 47 #[.agg #[.int .i64 ok, .int .i64 oid, .int .i64 ec, .int .i64 et, .int .i64 ex, .int .i64 em, .int .i64 ek, .int .i64 ee, .int .i64 ot, .int .i64 om, .int .i64 ow, .int .i64 oc, .int .i64 ov, dv], .pointer (some ⟨q + 1, 0, none⟩), .pointer (some ⟨q, 0, none⟩)] w fun e w' => e = .returned (.bool (wtB n 0 T)) ∧ Below w.heap.size w w' := by
  have hB : Bk (w.alloc (.cells #[.int .i64 ok, .int .i64 oid, .int .i64 ec, .int .i64 et, .int .i64 ex, .int .i64 em, .int .i64 ek, .int .i64 ee, .int .i64 ot, .int .i64 om, .int .i64 ow, .int .i64 oc, .int .i64 ov, dv] 26)) w.heap.size [.int .i64 ok, .int .i64 oid, .int .i64 ec, .int .i64 et, .int .i64 ex, .int .i64 em, .int .i64 ek, .int .i64 ee, .int .i64 ot, .int .i64 om, .int .i64 ow, .int .i64 oc, .int .i64 ov, dv] := Bk.new w _ _
  have HW : Hid (Below w.heap.size w (w.alloc (.cells #[.int .i64 ok, .int .i64 oid, .int .i64 ec, .int .i64 et, .int .i64 ex, .int .i64 em, .int .i64 ek, .int .i64 ee, .int .i64 ot, .int .i64 om, .int .i64 ow, .int .i64 oc, .int .i64 ov, dv] 26))) := below_b1 _ _
  have a0 := cell_later HW.out hq
  have a1 := cell_later HW.out hf
  have a2 := hB.cell hn
  have HK : Hid (AtK K c) := hK
  have hE := hK.1
  clear hq hf hn hB hK
  go_enter Try.func47, Try.ntmps47
  go_upto_region 1 with fail
  generalize (w.alloc (.cells #[.int .i64 ok, .int .i64 oid, .int .i64 ec, .int .i64 et, .int .i64 ex, .int .i64 em, .int .i64 ek, .int .i64 ee, .int .i64 ot, .int .i64 om, .int .i64 ow, .int .i64 oc, .int .i64 ov, dv] 26)) = W at *
  have h8 : ∀ w, (Op.shift BinOp.shl IntKind.i64 1 IntKind.i64 (IntKind.i64.wrap 8)).run Try.prog w = .ok (.int .i64 256) w := fun w => by kernel_rfl
  have h16 : ∀ w, (Op.shift BinOp.shl IntKind.i64 1 IntKind.i64 (IntKind.i64.wrap 16)).run Try.prog w = .ok (.int .i64 65536) w := fun w => by kernel_rfl
  have h255 : IntKind.i64.wrap 255 = 255 := by kernel_rfl
  have h65535 : IntKind.i64.wrap 65535 = 65535 := by kernel_rfl
  rcases hS with ⟨rfl, rfl⟩ | ⟨rfl, rfl⟩
  all_goals
    go_region_with (first
      | (go_at_call 28; refine (wtn_any n _ _ _).mono ?_; rintro e w2 ⟨rfl, rfl⟩)
      | (refine (HK.out.2 _ _).mono ?_; rintro e w2 ⟨rfl, rfl⟩))
    all_goals
      first | (go_wp2_with fail; go_ret; exact ⟨rfl, HW.out.drew⟩) | skip
end Go.Proofs.Yteklcolphbcjlaa
/- Walks of package wire: a number is got. -/
namespace Go.Proofs.Yteklcolphbcjlaa
open Go.RowKit

/-- What lies in a block is turned; all else stays. -/
def PutC (w w' : World) (b c : Nat) (u : Value) : Prop := (∀ l, Bk w b l → Bk w' b (l.set c u)) ∧ w.grownBy w' (some b)
theorem PutC.one (w : World) (b c : Nat) (u : Value) : PutC w (w.setCell ⟨b, c, none⟩ u).drew b c u :=
  ⟨fun l h => (h.set c u).later (Below.refl _ _).drew, ⟨rfl, rfl, rfl, by simp, fun i hi hne => (Below.heap_setCell _ _ _ _ (fun e => hne (by rw [e])))⟩⟩
def WgetE (vb : Value) (xs : List Int) (S b c : Nat) (w : World) (e : Ending) (w' : World) : Prop :=
  (xs.length < S ∧ e = .returned (.tuple #[.slice none 0 0, .bool false]) ∧ w' = w) ∨ (S ≤ xs.length ∧ ∃ v, e = .returned (.tuple #[v, .bool true]) ∧ (∀ y, Bys y vb xs → Bys y v (xs.drop S)) ∧ PutC w w' b c (.int .i64 (nuP xs S)))
theorem Bys.bd {w : World} {v : Value} {xs : List Int} (h : Bys w v xs) : ∀ i, i < xs.length → 0 ≤ xs.getD i 0 ∧ xs.getD i 0 ≤ 255 := by
  obtain ⟨a, cap, rfl, h1, h2, h3, h4, h5⟩ := h
  exact h4
/-- The rest of bytes. -/
theorem Bys.rest {w : World} {b o n cap S : Nat} {xs : List Int} (h : Bys w (.slice (some ⟨b, o, Option.none⟩) n cap) xs) (hS : S ≤ xs.length) (u : Nat) (hu : S < cap → u = o + S) : Bys w (.slice (some ⟨b, u, Option.none⟩) (xs.drop S).length (cap - S)) (xs.drop S) := by
  obtain ⟨a, cap', e, h1, h2, h3, h4, h5⟩ := h
  cases e
  refine ⟨_, cap - S, rfl, by simp; omega, by omega, (fun h => by cases h), fun i hi => ?_, fun hne => ?_⟩
  · have hi' : S + i < xs.length := by simp at hi; omega
    have := h4 (S + i) hi'
    rw [List.getD_eq_getElem?_getD] at this ⊢
    rw [List.getElem?_drop]; exact this
  · obtain ⟨b', o', e, h6⟩ := h5 (by intro e; rw [e] at hne; simp at hne)
    cases e
    have hl : 0 < (xs.drop S).length := List.length_pos_iff.2 hne
    have hl' : S < xs.length := by simp at hl; omega
    refine ⟨b, u, rfl, fun i hi => ?_⟩
    have hi' : S + i < xs.length := by simp at hi; omega
    have := h6 (S + i) hi'
    rw [hu (by omega), Nat.add_assoc, this, List.getD_eq_getElem?_getD, List.getD_eq_getElem?_getD, List.getElem?_drop]
theorem Bys.fore {w : World} {b o n cap S : Nat} {xs : List Int} (h : Bys w (.slice (some ⟨b, o, Option.none⟩) n cap) xs) (hS : S ≤ xs.length) : Bys w (.slice (some ⟨b, o, Option.none⟩) (xs.take S).length cap) (xs.take S) := by
  obtain ⟨a, cap', e, h1, h2, h3, h4, h5⟩ := h
  cases e
  have hg : ∀ i, i < S → (xs.take S).getD i 0 = xs.getD i 0 := fun i hi => by
    rw [List.getD_eq_getElem?_getD, List.getD_eq_getElem?_getD, List.getElem?_take, if_pos hi]
  refine ⟨_, cap, rfl, by simp; omega, h2, (fun h => by cases h), fun i hi => ?_, fun hne => ?_⟩
  · have hi' : i < S := by simp at hi; omega
    rw [hg i hi']; exact h4 i (by omega)
  · obtain ⟨b', o', e, h6⟩ := h5 (by intro e; rw [e] at hne; simp at hne)
    cases e
    refine ⟨b, o, rfl, fun i hi => ?_⟩
    have hi' : i < S := by simp at hi; omega
    rw [hg i hi']; exact h6 i (by omega)
theorem nuP_take (xs : List Int) (S : Nat) : ∀ i, i ≤ S → nuP (xs.take S) i = nuP xs i
  | 0, _ => rfl
  | i + 1, h => by
    show nuP (xs.take S) i * 256 + (xs.take S).getD i 0 = nuP xs i * 256 + xs.getD i 0
    rw [nuP_take xs S i (by omega), List.getD_eq_getElem?_getD, List.getD_eq_getElem?_getD, List.getElem?_take, if_pos (by omega)]
set_option maxHeartbeats 4000000 in
set_option maxRecDepth 100000 in
theorem wget_any (K c : Nat) (hK : AtK K c) (S : Nat) (hS : S = 1 ∨ S = 2) (b q : Nat) (x : Int) (vb : Value) (xs : List Int) (w : World) (hv : Bys w vb xs) (hvb : ∀ w', w.grownBy w' (some b) → Bys w' vb xs) (hx : w.cell? ⟨b, c, none⟩ = some (.int .i64 x)) (hz : w.frozen? ⟨b, c, none⟩ = false)
    (hqb : ¬ q = b) (hq : w.cell? ⟨q, 0, none⟩ = some (.int .i64 S)) (hf : w.cell? ⟨q + 1, 0, none⟩ = some (.func (.func K) #[] #[])) :
    Calls Try.prog 50 #[.pointer (some ⟨b, 0, none⟩), vb, .pointer (some ⟨q, 0, none⟩), .pointer (some ⟨q + 1, 0, none⟩)] w (WgetE vb xs S b c w) := by
  have HK : Hid (AtK K c) := hK
  have hE := hK.1
  clear hK
  have HV : Hid (Bys w vb xs ∧ ∀ w', w.grownBy w' (some b) → Bys w' vb xs) := ⟨hv, hvb⟩
  clear hvb
  obtain ⟨a, cap, rfl, h1, h2, h3, h4, h5⟩ := hv
  clear h3 h4
  by_cases cs : xs.length < S
  · have cs' : (xs.length : Int) < S := by omega
    have HC : Hid (xs.length < S) := cs
    clear h5 h1 h2 cs
    go_enter Try.func50, Try.ntmps50
    go_wp2_with fail
    go_ret2
    exact .inl ⟨HC.out, rfl, rfl⟩
  have cs' : ¬ (xs.length : Int) < S := by omega
  have hS1 : 1 ≤ S := by rcases hS with rfl | rfl <;> omega
  obtain ⟨bb, oo, rfl, h6⟩ := h5 (by intro e; rw [e] at cs; simp at cs; omega)
  have HC : Hid (S ≤ xs.length ∧ S ≤ cap ∧ 1 ≤ S ∧ S ≤ 2) := ⟨by omega, by omega, hS1, by rcases hS with rfl | rfl <;> omega⟩
  have k1 : (S : Int) ≤ cap := by omega
  have k2 : (S : Int) ≤ xs.length := by omega
  have k3 : S ≤ cap := by omega
  have k4 : S ≤ xs.length := by omega
  have k5 : (0 : Int) ≤ S := by omega
  clear hS hS1 h5 h6 cs
  go_enter Try.func50, Try.ntmps50
  go_upto_region 3 with fail
  go_region_with (first
      | (go_at_call 26; refine (number_any (xs.take S) _ _ (by have := HV.out.1.fore HC.out.1; rw [List.length_take, Nat.min_eq_left HC.out.1] at this; exact this.later (Below.refl _ _).drew) (by rw [List.length_take]; have := HC.out; omega)).mono ?_; rintro e w2 ⟨rfl, rfl⟩)
      | (refine (HK.out.2 _ _).mono ?_; rintro e w2 ⟨rfl, rfl⟩))
  all_goals
    rw [nuP_take xs S S (Nat.le_refl _)]
    have hw : (w.setCell ⟨b, c, none⟩ (.int .i64 (nuP xs S))).drew.cell? ⟨q, 0, none⟩ = some (.int .i64 S) := by
      show (w.setCell ⟨b, c, none⟩ _).cell? ⟨q, 0, none⟩ = _
      rw [World.cell?_setCell_other _ _ _ _ (fun e => hqb (congrArg Addr.block e).symm)]
      exact hq
    have HP : Hid (PutC w (w.setCell ⟨b, c, none⟩ (.int .i64 (nuP xs S))).drew b c (.int .i64 (nuP xs S))) := PutC.one _ _ _ _
    clear hx hz hq hf
    generalize (w.setCell ⟨b, c, none⟩ (.int .i64 (nuP xs S))).drew = W2 at *
    rcases Nat.lt_or_eq_of_le HC.out.2.1 with hc | hc
    · have hc' : (S : Int) < cap := by omega
      go_wp2_with fail
      go_ret2
      exact .inr ⟨HC.out.1, _, rfl, fun y hy => by
        have hr := hy.rest HC.out.1 (oo + S) (fun _ => rfl)
        rw [List.length_drop] at hr
        exact hr, HP.out⟩
    · have hc' : ¬ (S : Int) < cap := by omega
      subst hc
      go_wp2_with fail
      go_ret2
      exact .inr ⟨HC.out.1, _, rfl, fun y hy => by
        have hr := hy.rest HC.out.1 oo (fun h => absurd h (Nat.lt_irrefl _))
        rw [List.length_drop, show xs.length - S = 0 by omega, Nat.sub_self] at hr
        exact hr, HP.out⟩
end Go.Proofs.Yteklcolphbcjlaa
/- Walks of package wire: a number's bytes are put; it is cleared. -/
namespace Go.Proofs.Yteklcolphbcjlaa
open Go.RowKit

set_option maxHeartbeats 2000000 in
set_option maxRecDepth 100000 in
theorem wput_any (K c : Nat) (hK : AtK K c) (S : Nat) (hS : S = 1 ∨ S = 2) (ok oid ec et ex em ek ee ot om ow oc ov : Int) (dv : Value) (n : Int) (q : Nat) (w : World) (hn : [.int .i64 ok, .int .i64 oid, .int .i64 ec, .int .i64 et, .int .i64 ex, .int .i64 em, .int .i64 ek, .int .i64 ee, .int .i64 ot, .int .i64 om, .int .i64 ow, .int .i64 oc, .int .i64 ov, dv][c]? = some (Value.int .i64 n))
    (hq : w.cell? ⟨q, 0, none⟩ = some (.int .i64 S)) (hf : w.cell? ⟨q + 1, 0, none⟩ = some (.func (.func K) #[] #[])) :
    Calls Try.prog 49 #[.agg #[.int .i64 ok, .int .i64 oid, .int .i64 ec, .int .i64 et, .int .i64 ex, .int .i64 em, .int .i64 ek, .int .i64 ee, .int .i64 ot, .int .i64 om, .int .i64 ow, .int .i64 oc, .int .i64 ov, dv], .pointer (some ⟨q + 1, 0, none⟩), .pointer (some ⟨q, 0, none⟩)] w (DgE n S w) := by
  have hB : Bk (w.alloc (.cells #[.int .i64 ok, .int .i64 oid, .int .i64 ec, .int .i64 et, .int .i64 ex, .int .i64 em, .int .i64 ek, .int .i64 ee, .int .i64 ot, .int .i64 om, .int .i64 ow, .int .i64 oc, .int .i64 ov, dv] 26)) w.heap.size [.int .i64 ok, .int .i64 oid, .int .i64 ec, .int .i64 et, .int .i64 ex, .int .i64 em, .int .i64 ek, .int .i64 ee, .int .i64 ot, .int .i64 om, .int .i64 ow, .int .i64 oc, .int .i64 ov, dv] := Bk.new w _ _
  have HW : Hid (Below w.heap.size w (w.alloc (.cells #[.int .i64 ok, .int .i64 oid, .int .i64 ec, .int .i64 et, .int .i64 ex, .int .i64 em, .int .i64 ek, .int .i64 ee, .int .i64 ot, .int .i64 om, .int .i64 ow, .int .i64 oc, .int .i64 ov, dv] 26))) := below_b1 _ _
  have a0 := cell_later HW.out hq
  have a1 := cell_later HW.out hf
  have a2 := hB.cell hn
  have HK : Hid (AtK K c) := hK
  have hE := hK.1
  clear hq hf hn hB hK
  go_enter Try.func49, Try.ntmps49
  go_upto_region 1 with fail
  generalize (w.alloc (.cells #[.int .i64 ok, .int .i64 oid, .int .i64 ec, .int .i64 et, .int .i64 ex, .int .i64 em, .int .i64 ek, .int .i64 ee, .int .i64 ot, .int .i64 om, .int .i64 ow, .int .i64 oc, .int .i64 ov, dv] 26)) = W at *
  have HS : Hid (1 ≤ S ∧ S ≤ 8) := by rcases hS with rfl | rfl <;> exact ⟨by omega, by omega⟩
  clear hS
  go_region_with (first
      | (go_at_call 22; refine (digits_any n S HS.out.1 HS.out.2 _).mono ?_; rintro e w2 ⟨v2, rfl, ho2, hb2⟩)
      | (refine (HK.out.2 _ _).mono ?_; rintro e w2 ⟨rfl, rfl⟩))
  all_goals
    go_wp2_with fail
    go_ret
    exact ⟨_, rfl, ho2.lower (HW.out.drew).size, HW.out.drew.trans (hb2.mono (HW.out.drew).size)⟩
set_option maxHeartbeats 2000000 in
theorem wclr_any (K c : Nat) (hK : AtK K c) (b q : Nat) (x : Int) (w : World) (hx : w.cell? ⟨b, c, none⟩ = some (.int .i64 x)) (hz : w.frozen? ⟨b, c, none⟩ = false) (hf : w.cell? ⟨q + 1, 0, none⟩ = some (.func (.func K) #[] #[])) :
    Calls Try.prog 48 #[.pointer (some ⟨b, 0, none⟩), .pointer (some ⟨q + 1, 0, none⟩)] w fun e w' => e = .returned (.tuple #[]) ∧ w' = w.setCell ⟨b, c, none⟩ (.int .i64 0) := by
  have HK : Hid (AtK K c) := hK
  have hE := hK.1
  clear hK
  go_enter Try.func48, Try.ntmps48
  go_wp2_with fail
  refine (HK.out.2 _ _).mono ?_
  rintro e w2 ⟨rfl, rfl⟩
  go_wp2_with fail
  exact bodyPost_end (results_none rfl _ _ _) rfl ⟨rfl, rfl⟩
end Go.Proofs.Yteklcolphbcjlaa
/- Walks of package wire: all parts. -/
namespace Go.Proofs.Yteklcolphbcjlaa
open Go.RowKit

/-- A part as it lies: one that is a number, by where its size lies (where it stands lies behind), or the list. -/
def pr : Option Nat → List Value
  | some q => [.func (.func 47) #[] #[.pointer (some ⟨q + 1, 0, none⟩), .pointer (some ⟨q, 0, none⟩)], .func (.func 48) #[] #[.pointer (some ⟨q + 1, 0, none⟩)], .func (.func 49) #[] #[.pointer (some ⟨q + 1, 0, none⟩), .pointer (some ⟨q, 0, none⟩)], .func (.func 50) #[] #[.pointer (some ⟨q, 0, none⟩), .pointer (some ⟨q + 1, 0, none⟩)]]
  | none => [.func (.func 51) #[] #[], .func (.func 54) #[] #[], .func (.func 55) #[] #[], .func (.func 56) #[] #[]]
theorem pr_len (x : Option Nat) : (pr x).length = 4 := by cases x <;> rfl
theorem pr_one (x : Option Nat) : ∀ v ∈ pr x, v.oneCell' = true := by
  cases x <;> (intro v hv; simp [pr] at hv; rcases hv with rfl | rfl | rfl | rfl <;> rfl)
def fl (ps : List (Option Nat)) : List Value := ps.flatMap pr
theorem fl_len (ps : List (Option Nat)) : (fl ps).length = ps.length * 4 := by
  induction ps with
  | nil => rfl
  | cons a ps ih => unfold fl at ih ⊢; rw [List.flatMap_cons, List.length_append, ih, pr_len, List.length_cons]; omega
theorem fl_app (ps qs : List (Option Nat)) : fl (ps ++ qs) = fl ps ++ fl qs := List.flatMap_append
theorem fl_at : ∀ (ps : List (Option Nat)) (t : Nat) (x : Option Nat), ps[t]? = some x → ((fl ps).drop (t * 4)).take 4 = pr x
  | [], t, x, h => by simp at h
  | a :: ps, 0, x, h => by
    simp at h; subst h
    show (pr a ++ fl ps).take 4 = pr a
    rw [List.take_append_of_le_length (by rw [pr_len]; omega), List.take_of_length_le (by rw [pr_len]; omega)]
  | a :: ps, t + 1, x, h => by
    have h' : ps[t]? = some x := by simpa using h
    show ((pr a ++ fl ps).drop ((t + 1) * 4)).take 4 = pr x
    rw [show (t + 1) * 4 = (pr a).length + t * 4 by rw [pr_len]; omega, List.drop_length_add_append, fl_at ps t x h']
/-- What a part that is a number knows: how many bytes, and which one it is. -/
def ciN (i : Nat) : Nat := [2, 3, 4, 5, 6, 7, 1, 8, 9, 10, 11, 12].getD i 0
def siN (i : Nat) : Nat := [1, 1, 1, 1, 1, 1, 2, 1, 1, 1, 1, 2].getD i 0
def Wh (w : World) (q i : Nat) : Prop := Bk w q [.int .i64 (siN i)] ∧ ∃ K, AtK K (ciN i) ∧ Bk w (q + 1) [.func (.func K) #[] #[]]
theorem Wh.later {w w' : World} {q i : Nat} (h : Wh w q i) (hb : Below w.heap.size w w') : Wh w' q i := by
  obtain ⟨h1, K, h2, h3⟩ := h
  exact ⟨h1.later hb, K, h2, h3.later hb⟩
theorem Bk.far {w w' : World} {b q : Nat} {l : List Value} (h : Bk w q l) (hg : w.grownBy w' (some b)) (hne : q ≠ b) : Bk w' q l := by
  intro i hi
  obtain ⟨h1, h2⟩ := h i hi
  have hu : l[i]? = some l[i] := List.getElem?_eq_getElem hi
  rw [hu] at h1
  have hlt : q < w.heap.size := World.block_lt_of_cell? _ _ h1
  have e := hg.block q hlt (fun e => hne (by cases e; rfl))
  refine ⟨?_, ?_⟩
  · rw [hu, ← h1]; unfold World.cell?; rw [e]
  · rw [← h2]; unfold World.frozen?; rw [e]
theorem Wh.far {w w' : World} {b q i : Nat} (h : Wh w q i) (hg : w.grownBy w' (some b)) (h0 : q ≠ b) (h1 : q + 1 ≠ b) : Wh w' q i := by
  obtain ⟨e1, K, h2, h3⟩ := h
  exact ⟨e1.far hg h0, K, h2, h3.far hg h1⟩
theorem ret_c1 {P : Program} {fn : Func} {R : Ending → World → Prop} {a : Act} {w : World} {p : Tmp} {ty : TypeId} (h : fn.results = #[.cell p ty]) (q : Nat) (l : List Value) (hp : a.tmps.getD p undef = .pointer (some ⟨q, 0, none⟩)) (hq : Bk w q l) (d : TypeDesc) (hu : P.underlying ty = some d) (hd : d.isRow = true) (hi : (P.info? ty).map (·.size) = some l.length)
    (hdf : a.defers = []) (hR : R (.returned (.agg l.toArray)) w) : bodyPost P fn R .ret a w := by
  refine bodyPost_ret (v := .agg l.toArray) ?_ hdf hR
  have hp' : a.tmps[p]?.getD undef = .pointer (some ⟨q, 0, none⟩) := by simpa using hp
  simp [results, h, hp', asAddr, run_loadVar_bk ty d hq hu hd hi]
set_option maxHeartbeats 2000000 in
set_option maxRecDepth 100000 in
theorem whole_any (i S K : Nat) (hS : siN i = S) (hK : AtK K (ciN i)) (w : World) :
    Calls Try.prog 33 #[.int .i64 S, .func (.func K) #[] #[]] w fun e w' => ∃ q, e = .returned (.agg #[.func (.func 47) #[] #[.pointer (some ⟨q + 1, 0, none⟩), .pointer (some ⟨q, 0, none⟩)], .func (.func 48) #[] #[.pointer (some ⟨q + 1, 0, none⟩)], .func (.func 49) #[] #[.pointer (some ⟨q + 1, 0, none⟩), .pointer (some ⟨q, 0, none⟩)], .func (.func 50) #[] #[.pointer (some ⟨q, 0, none⟩), .pointer (some ⟨q + 1, 0, none⟩)]]) ∧ w.heap.size ≤ q ∧ Wh w' q i ∧ Below w.heap.size w w' := by
  go_enter Try.func33, Try.ntmps33
  go_wp2_with fail
  refine ret_c1 (ty := 52) rfl (w.heap.size + 2) [.func (.func 47) #[] #[.pointer (some ⟨w.heap.size + 1, 0, none⟩), .pointer (some ⟨w.heap.size, 0, none⟩)], .func (.func 48) #[] #[.pointer (some ⟨w.heap.size + 1, 0, none⟩)], .func (.func 49) #[] #[.pointer (some ⟨w.heap.size + 1, 0, none⟩), .pointer (some ⟨w.heap.size, 0, none⟩)], .func (.func 50) #[] #[.pointer (some ⟨w.heap.size, 0, none⟩), .pointer (some ⟨w.heap.size + 1, 0, none⟩)]] rfl ?_ _ Try.underlying52 rfl (by kernel_rfl) rfl ⟨w.heap.size, rfl, Nat.le_refl _, ⟨?_, K, hK, ?_⟩, ?_⟩
  · have h := Bk.new ((w.alloc (.cells #[.int .i64 S] 3)).alloc (.cells #[.func (.func K) #[] #[]] 66)) [.func (.func 47) #[] #[.pointer (some ⟨w.heap.size + 1, 0, none⟩), .pointer (some ⟨w.heap.size, 0, none⟩)], .func (.func 48) #[] #[.pointer (some ⟨w.heap.size + 1, 0, none⟩)], .func (.func 49) #[] #[.pointer (some ⟨w.heap.size + 1, 0, none⟩), .pointer (some ⟨w.heap.size, 0, none⟩)], .func (.func 50) #[] #[.pointer (some ⟨w.heap.size, 0, none⟩), .pointer (some ⟨w.heap.size + 1, 0, none⟩)]] 52
    simp only [World.size_alloc] at h
    exact h
  · rw [hS]; exact (Bk.new w [.int .i64 S] 3).later (below_b2 _ _ _)
  · have h := (Bk.new (w.alloc (.cells #[.int .i64 S] 3)) [.func (.func K) #[] #[]] 66).later (below_b1 _ (.cells #[.func (.func 47) #[] #[.pointer (some ⟨w.heap.size + 1, 0, none⟩), .pointer (some ⟨w.heap.size, 0, none⟩)], .func (.func 48) #[] #[.pointer (some ⟨w.heap.size + 1, 0, none⟩)], .func (.func 49) #[] #[.pointer (some ⟨w.heap.size + 1, 0, none⟩), .pointer (some ⟨w.heap.size, 0, none⟩)], .func (.func 50) #[] #[.pointer (some ⟨w.heap.size, 0, none⟩), .pointer (some ⟨w.heap.size + 1, 0, none⟩)]] 52))
    simp only [World.size_alloc] at h
    exact h
  · exact (below_b2 w _ _).alloc (by simp <;> omega) _
set_option maxRecDepth 100000 in
theorem longs_any (w : World) :
    Calls Try.prog 46 #[] w fun e w' => e = .returned (.agg #[.func (.func 51) #[] #[], .func (.func 54) #[] #[], .func (.func 55) #[] #[], .func (.func 56) #[] #[]]) ∧ Below w.heap.size w w' := by
  go_enter Try.func46, Try.ntmps46
  go_wp2_with fail
  exact ret_c1 (ty := 52) rfl w.heap.size [.func (.func 51) #[] #[], .func (.func 54) #[] #[], .func (.func 55) #[] #[], .func (.func 56) #[] #[]] rfl (Bk.new w _ _) _ Try.underlying52 rfl (by kernel_rfl) rfl ⟨rfl, below_b1 _ _⟩
theorem wh_put {w w' : World} {p q i : Nat} (h2 : ∀ (k : Nat) (m : List Value), k ≠ p → Bk w k m → Bk w' k m) (h : Wh w q i) (hq : p < q) : Wh w' q i := by
  obtain ⟨e1, K, h3, h4⟩ := h
  exact ⟨h2 _ _ (by omega) e1, K, h3, h2 _ _ (by omega) h4⟩
def po (q : Nat → Nat) (i : Nat) : Option Nat := if i = 12 then none else some (q i)
def PartsE (w : World) (e : Ending) (w' : World) : Prop := ∃ q : Nat → Nat, e = .returned (.agg (fl ((List.range 13).map (po q))).toArray) ∧ (∀ i, i < 12 → Wh w' (q i) i ∧ w.heap.size ≤ q i) ∧ Below w.heap.size w w'
set_option maxHeartbeats 8000000 in
set_option maxRecDepth 100000 in
theorem wparts_any (w : World) : Calls Try.prog 31 #[] w (PartsE w) := by
  have HB : Hid (Bk (w.alloc (.cells #[.nilFunc, .nilFunc, .nilFunc, .nilFunc, .nilFunc, .nilFunc, .nilFunc, .nilFunc, .nilFunc, .nilFunc, .nilFunc, .nilFunc, .nilFunc, .nilFunc, .nilFunc, .nilFunc, .nilFunc, .nilFunc, .nilFunc, .nilFunc, .nilFunc, .nilFunc, .nilFunc, .nilFunc, .nilFunc, .nilFunc, .nilFunc, .nilFunc, .nilFunc, .nilFunc, .nilFunc, .nilFunc, .nilFunc, .nilFunc, .nilFunc, .nilFunc, .nilFunc, .nilFunc, .nilFunc, .nilFunc, .nilFunc, .nilFunc, .nilFunc, .nilFunc, .nilFunc, .nilFunc, .nilFunc, .nilFunc, .nilFunc, .nilFunc, .nilFunc, .nilFunc] 61)) w.heap.size [.nilFunc, .nilFunc, .nilFunc, .nilFunc, .nilFunc, .nilFunc, .nilFunc, .nilFunc, .nilFunc, .nilFunc, .nilFunc, .nilFunc, .nilFunc, .nilFunc, .nilFunc, .nilFunc, .nilFunc, .nilFunc, .nilFunc, .nilFunc, .nilFunc, .nilFunc, .nilFunc, .nilFunc, .nilFunc, .nilFunc, .nilFunc, .nilFunc, .nilFunc, .nilFunc, .nilFunc, .nilFunc, .nilFunc, .nilFunc, .nilFunc, .nilFunc, .nilFunc, .nilFunc, .nilFunc, .nilFunc, .nilFunc, .nilFunc, .nilFunc, .nilFunc, .nilFunc, .nilFunc, .nilFunc, .nilFunc, .nilFunc, .nilFunc, .nilFunc, .nilFunc] ∧ Below w.heap.size w (w.alloc (.cells #[.nilFunc, .nilFunc, .nilFunc, .nilFunc, .nilFunc, .nilFunc, .nilFunc, .nilFunc, .nilFunc, .nilFunc, .nilFunc, .nilFunc, .nilFunc, .nilFunc, .nilFunc, .nilFunc, .nilFunc, .nilFunc, .nilFunc, .nilFunc, .nilFunc, .nilFunc, .nilFunc, .nilFunc, .nilFunc, .nilFunc, .nilFunc, .nilFunc, .nilFunc, .nilFunc, .nilFunc, .nilFunc, .nilFunc, .nilFunc, .nilFunc, .nilFunc, .nilFunc, .nilFunc, .nilFunc, .nilFunc, .nilFunc, .nilFunc, .nilFunc, .nilFunc, .nilFunc, .nilFunc, .nilFunc, .nilFunc, .nilFunc, .nilFunc, .nilFunc, .nilFunc] 61))) := ⟨Bk.new w _ _, below_b1 _ _⟩
  go_enter Try.func31, Try.ntmps31
  go_wp2_with fail
  generalize (w.alloc (.cells #[.nilFunc, .nilFunc, .nilFunc, .nilFunc, .nilFunc, .nilFunc, .nilFunc, .nilFunc, .nilFunc, .nilFunc, .nilFunc, .nilFunc, .nilFunc, .nilFunc, .nilFunc, .nilFunc, .nilFunc, .nilFunc, .nilFunc, .nilFunc, .nilFunc, .nilFunc, .nilFunc, .nilFunc, .nilFunc, .nilFunc, .nilFunc, .nilFunc, .nilFunc, .nilFunc, .nilFunc, .nilFunc, .nilFunc, .nilFunc, .nilFunc, .nilFunc, .nilFunc, .nilFunc, .nilFunc, .nilFunc, .nilFunc, .nilFunc, .nilFunc, .nilFunc, .nilFunc, .nilFunc, .nilFunc, .nilFunc, .nilFunc, .nilFunc, .nilFunc, .nilFunc] 61)) = W0 at *
  refine (whole_any 0 1 34 rfl at16_0 _).mono ?_
  rintro e w0 ⟨q0, rfl, hq0, hw0, hb0⟩
  have HQ0 : Hid (w.heap.size < q0) := Nat.lt_of_lt_of_le HB.out.1.lt hq0
  clear hq0
  have HB0 : Hid (Bk w0 w.heap.size [.nilFunc, .nilFunc, .nilFunc, .nilFunc, .nilFunc, .nilFunc, .nilFunc, .nilFunc, .nilFunc, .nilFunc, .nilFunc, .nilFunc, .nilFunc, .nilFunc, .nilFunc, .nilFunc, .nilFunc, .nilFunc, .nilFunc, .nilFunc, .nilFunc, .nilFunc, .nilFunc, .nilFunc, .nilFunc, .nilFunc, .nilFunc, .nilFunc, .nilFunc, .nilFunc, .nilFunc, .nilFunc, .nilFunc, .nilFunc, .nilFunc, .nilFunc, .nilFunc, .nilFunc, .nilFunc, .nilFunc, .nilFunc, .nilFunc, .nilFunc, .nilFunc, .nilFunc, .nilFunc, .nilFunc, .nilFunc, .nilFunc, .nilFunc, .nilFunc, .nilFunc] ∧ Below w.heap.size w w0 ∧ Wh w0 q0 0 ∧ True) := ⟨HB.out.1.later hb0, HB.out.2.trans (hb0.mono HB.out.2.size), hw0, trivial⟩
  clear hw0 hb0 HB
  go_wp2_with fail
  refine (whole_any 1 1 35 rfl at16_1 _).mono ?_
  rintro e w1 ⟨q1, rfl, hq1, hw1, hb1⟩
  have HQ1 : Hid (w.heap.size < q1) := Nat.lt_of_lt_of_le HB0.out.1.lt hq1
  clear hq1
  have HB1 : Hid (Bk w1 w.heap.size [.nilFunc, .nilFunc, .nilFunc, .nilFunc, .nilFunc, .nilFunc, .nilFunc, .nilFunc, .nilFunc, .nilFunc, .nilFunc, .nilFunc, .nilFunc, .nilFunc, .nilFunc, .nilFunc, .nilFunc, .nilFunc, .nilFunc, .nilFunc, .nilFunc, .nilFunc, .nilFunc, .nilFunc, .nilFunc, .nilFunc, .nilFunc, .nilFunc, .nilFunc, .nilFunc, .nilFunc, .nilFunc, .nilFunc, .nilFunc, .nilFunc, .nilFunc, .nilFunc, .nilFunc, .nilFunc, .nilFunc, .nilFunc, .nilFunc, .nilFunc, .nilFunc, .nilFunc, .nilFunc, .nilFunc, .nilFunc, .nilFunc, .nilFunc, .nilFunc, .nilFunc] ∧ Below w.heap.size w w1 ∧ Wh w1 q1 1 ∧ Wh w1 q0 0 ∧ True) := ⟨HB0.out.1.later hb1, HB0.out.2.1.trans (hb1.mono HB0.out.2.1.size), hw1, HB0.out.2.2.1.later hb1, trivial⟩
  clear hw1 hb1 HB0
  go_wp2_with fail
  refine (whole_any 2 1 36 rfl at16_2 _).mono ?_
  rintro e w2 ⟨q2, rfl, hq2, hw2, hb2⟩
  have HQ2 : Hid (w.heap.size < q2) := Nat.lt_of_lt_of_le HB1.out.1.lt hq2
  clear hq2
  have HB2 : Hid (Bk w2 w.heap.size [.nilFunc, .nilFunc, .nilFunc, .nilFunc, .nilFunc, .nilFunc, .nilFunc, .nilFunc, .nilFunc, .nilFunc, .nilFunc, .nilFunc, .nilFunc, .nilFunc, .nilFunc, .nilFunc, .nilFunc, .nilFunc, .nilFunc, .nilFunc, .nilFunc, .nilFunc, .nilFunc, .nilFunc, .nilFunc, .nilFunc, .nilFunc, .nilFunc, .nilFunc, .nilFunc, .nilFunc, .nilFunc, .nilFunc, .nilFunc, .nilFunc, .nilFunc, .nilFunc, .nilFunc, .nilFunc, .nilFunc, .nilFunc, .nilFunc, .nilFunc, .nilFunc, .nilFunc, .nilFunc, .nilFunc, .nilFunc, .nilFunc, .nilFunc, .nilFunc, .nilFunc] ∧ Below w.heap.size w w2 ∧ Wh w2 q2 2 ∧ Wh w2 q1 1 ∧ Wh w2 q0 0 ∧ True) := ⟨HB1.out.1.later hb2, HB1.out.2.1.trans (hb2.mono HB1.out.2.1.size), hw2, HB1.out.2.2.1.later hb2, HB1.out.2.2.2.1.later hb2, trivial⟩
  clear hw2 hb2 HB1
  go_wp2_with fail
  refine (whole_any 3 1 37 rfl at16_3 _).mono ?_
  rintro e w3 ⟨q3, rfl, hq3, hw3, hb3⟩
  have HQ3 : Hid (w.heap.size < q3) := Nat.lt_of_lt_of_le HB2.out.1.lt hq3
  clear hq3
  have HB3 : Hid (Bk w3 w.heap.size [.nilFunc, .nilFunc, .nilFunc, .nilFunc, .nilFunc, .nilFunc, .nilFunc, .nilFunc, .nilFunc, .nilFunc, .nilFunc, .nilFunc, .nilFunc, .nilFunc, .nilFunc, .nilFunc, .nilFunc, .nilFunc, .nilFunc, .nilFunc, .nilFunc, .nilFunc, .nilFunc, .nilFunc, .nilFunc, .nilFunc, .nilFunc, .nilFunc, .nilFunc, .nilFunc, .nilFunc, .nilFunc, .nilFunc, .nilFunc, .nilFunc, .nilFunc, .nilFunc, .nilFunc, .nilFunc, .nilFunc, .nilFunc, .nilFunc, .nilFunc, .nilFunc, .nilFunc, .nilFunc, .nilFunc, .nilFunc, .nilFunc, .nilFunc, .nilFunc, .nilFunc] ∧ Below w.heap.size w w3 ∧ Wh w3 q3 3 ∧ Wh w3 q2 2 ∧ Wh w3 q1 1 ∧ Wh w3 q0 0 ∧ True) := ⟨HB2.out.1.later hb3, HB2.out.2.1.trans (hb3.mono HB2.out.2.1.size), hw3, HB2.out.2.2.1.later hb3, HB2.out.2.2.2.1.later hb3, HB2.out.2.2.2.2.1.later hb3, trivial⟩
  clear hw3 hb3 HB2
  go_wp2_with fail
  refine (whole_any 4 1 38 rfl at16_4 _).mono ?_
  rintro e w4 ⟨q4, rfl, hq4, hw4, hb4⟩
  have HQ4 : Hid (w.heap.size < q4) := Nat.lt_of_lt_of_le HB3.out.1.lt hq4
  clear hq4
  have HB4 : Hid (Bk w4 w.heap.size [.nilFunc, .nilFunc, .nilFunc, .nilFunc, .nilFunc, .nilFunc, .nilFunc, .nilFunc, .nilFunc, .nilFunc, .nilFunc, .nilFunc, .nilFunc, .nilFunc, .nilFunc, .nilFunc, .nilFunc, .nilFunc, .nilFunc, .nilFunc, .nilFunc, .nilFunc, .nilFunc, .nilFunc, .nilFunc, .nilFunc, .nilFunc, .nilFunc, .nilFunc, .nilFunc, .nilFunc, .nilFunc, .nilFunc, .nilFunc, .nilFunc, .nilFunc, .nilFunc, .nilFunc, .nilFunc, .nilFunc, .nilFunc, .nilFunc, .nilFunc, .nilFunc, .nilFunc, .nilFunc, .nilFunc, .nilFunc, .nilFunc, .nilFunc, .nilFunc, .nilFunc] ∧ Below w.heap.size w w4 ∧ Wh w4 q4 4 ∧ Wh w4 q3 3 ∧ Wh w4 q2 2 ∧ Wh w4 q1 1 ∧ Wh w4 q0 0 ∧ True) := ⟨HB3.out.1.later hb4, HB3.out.2.1.trans (hb4.mono HB3.out.2.1.size), hw4, HB3.out.2.2.1.later hb4, HB3.out.2.2.2.1.later hb4, HB3.out.2.2.2.2.1.later hb4, HB3.out.2.2.2.2.2.1.later hb4, trivial⟩
  clear hw4 hb4 HB3
  go_wp2_with fail
  refine (whole_any 5 1 39 rfl at16_5 _).mono ?_
  rintro e w5 ⟨q5, rfl, hq5, hw5, hb5⟩
  have HQ5 : Hid (w.heap.size < q5) := Nat.lt_of_lt_of_le HB4.out.1.lt hq5
  clear hq5
  have HB5 : Hid (Bk w5 w.heap.size [.nilFunc, .nilFunc, .nilFunc, .nilFunc, .nilFunc, .nilFunc, .nilFunc, .nilFunc, .nilFunc, .nilFunc, .nilFunc, .nilFunc, .nilFunc, .nilFunc, .nilFunc, .nilFunc, .nilFunc, .nilFunc, .nilFunc, .nilFunc, .nilFunc, .nilFunc, .nilFunc, .nilFunc, .nilFunc, .nilFunc, .nilFunc, .nilFunc, .nilFunc, .nilFunc, .nilFunc, .nilFunc, .nilFunc, .nilFunc, .nilFunc, .nilFunc, .nilFunc, .nilFunc, .nilFunc, .nilFunc, .nilFunc, .nilFunc, .nilFunc, .nilFunc, .nilFunc, .nilFunc, .nilFunc, .nilFunc, .nilFunc, .nilFunc, .nilFunc, .nilFunc] ∧ Below w.heap.size w w5 ∧ Wh w5 q5 5 ∧ Wh w5 q4 4 ∧ Wh w5 q3 3 ∧ Wh w5 q2 2 ∧ Wh w5 q1 1 ∧ Wh w5 q0 0 ∧ True) := ⟨HB4.out.1.later hb5, HB4.out.2.1.trans (hb5.mono HB4.out.2.1.size), hw5, HB4.out.2.2.1.later hb5, HB4.out.2.2.2.1.later hb5, HB4.out.2.2.2.2.1.later hb5, HB4.out.2.2.2.2.2.1.later hb5, HB4.out.2.2.2.2.2.2.1.later hb5, trivial⟩
  clear hw5 hb5 HB4
  go_wp2_with fail
  refine (whole_any 6 2 40 rfl at16_6 _).mono ?_
  rintro e w6 ⟨q6, rfl, hq6, hw6, hb6⟩
  have HQ6 : Hid (w.heap.size < q6) := Nat.lt_of_lt_of_le HB5.out.1.lt hq6
  clear hq6
  have HB6 : Hid (Bk w6 w.heap.size [.nilFunc, .nilFunc, .nilFunc, .nilFunc, .nilFunc, .nilFunc, .nilFunc, .nilFunc, .nilFunc, .nilFunc, .nilFunc, .nilFunc, .nilFunc, .nilFunc, .nilFunc, .nilFunc, .nilFunc, .nilFunc, .nilFunc, .nilFunc, .nilFunc, .nilFunc, .nilFunc, .nilFunc, .nilFunc, .nilFunc, .nilFunc, .nilFunc, .nilFunc, .nilFunc, .nilFunc, .nilFunc, .nilFunc, .nilFunc, .nilFunc, .nilFunc, .nilFunc, .nilFunc, .nilFunc, .nilFunc, .nilFunc, .nilFunc, .nilFunc, .nilFunc, .nilFunc, .nilFunc, .nilFunc, .nilFunc, .nilFunc, .nilFunc, .nilFunc, .nilFunc] ∧ Below w.heap.size w w6 ∧ Wh w6 q6 6 ∧ Wh w6 q5 5 ∧ Wh w6 q4 4 ∧ Wh w6 q3 3 ∧ Wh w6 q2 2 ∧ Wh w6 q1 1 ∧ Wh w6 q0 0 ∧ True) := ⟨HB5.out.1.later hb6, HB5.out.2.1.trans (hb6.mono HB5.out.2.1.size), hw6, HB5.out.2.2.1.later hb6, HB5.out.2.2.2.1.later hb6, HB5.out.2.2.2.2.1.later hb6, HB5.out.2.2.2.2.2.1.later hb6, HB5.out.2.2.2.2.2.2.1.later hb6, HB5.out.2.2.2.2.2.2.2.1.later hb6, trivial⟩
  clear hw6 hb6 HB5
  go_wp2_with fail
  refine (whole_any 7 1 41 rfl at16_7 _).mono ?_
  rintro e w7 ⟨q7, rfl, hq7, hw7, hb7⟩
  have HQ7 : Hid (w.heap.size < q7) := Nat.lt_of_lt_of_le HB6.out.1.lt hq7
  clear hq7
  have HB7 : Hid (Bk w7 w.heap.size [.nilFunc, .nilFunc, .nilFunc, .nilFunc, .nilFunc, .nilFunc, .nilFunc, .nilFunc, .nilFunc, .nilFunc, .nilFunc, .nilFunc, .nilFunc, .nilFunc, .nilFunc, .nilFunc, .nilFunc, .nilFunc, .nilFunc, .nilFunc, .nilFunc, .nilFunc, .nilFunc, .nilFunc, .nilFunc, .nilFunc, .nilFunc, .nilFunc, .nilFunc, .nilFunc, .nilFunc, .nilFunc, .nilFunc, .nilFunc, .nilFunc, .nilFunc, .nilFunc, .nilFunc, .nilFunc, .nilFunc, .nilFunc, .nilFunc, .nilFunc, .nilFunc, .nilFunc, .nilFunc, .nilFunc, .nilFunc, .nilFunc, .nilFunc, .nilFunc, .nilFunc] ∧ Below w.heap.size w w7 ∧ Wh w7 q7 7 ∧ Wh w7 q6 6 ∧ Wh w7 q5 5 ∧ Wh w7 q4 4 ∧ Wh w7 q3 3 ∧ Wh w7 q2 2 ∧ Wh w7 q1 1 ∧ Wh w7 q0 0 ∧ True) := ⟨HB6.out.1.later hb7, HB6.out.2.1.trans (hb7.mono HB6.out.2.1.size), hw7, HB6.out.2.2.1.later hb7, HB6.out.2.2.2.1.later hb7, HB6.out.2.2.2.2.1.later hb7, HB6.out.2.2.2.2.2.1.later hb7, HB6.out.2.2.2.2.2.2.1.later hb7, HB6.out.2.2.2.2.2.2.2.1.later hb7, HB6.out.2.2.2.2.2.2.2.2.1.later hb7, trivial⟩
  clear hw7 hb7 HB6
  go_wp2_with fail
  refine (whole_any 8 1 42 rfl at16_8 _).mono ?_
  rintro e w8 ⟨q8, rfl, hq8, hw8, hb8⟩
  have HQ8 : Hid (w.heap.size < q8) := Nat.lt_of_lt_of_le HB7.out.1.lt hq8
  clear hq8
  have HB8 : Hid (Bk w8 w.heap.size [.nilFunc, .nilFunc, .nilFunc, .nilFunc, .nilFunc, .nilFunc, .nilFunc, .nilFunc, .nilFunc, .nilFunc, .nilFunc, .nilFunc, .nilFunc, .nilFunc, .nilFunc, .nilFunc, .nilFunc, .nilFunc, .nilFunc, .nilFunc, .nilFunc, .nilFunc, .nilFunc, .nilFunc, .nilFunc, .nilFunc, .nilFunc, .nilFunc, .nilFunc, .nilFunc, .nilFunc, .nilFunc, .nilFunc, .nilFunc, .nilFunc, .nilFunc, .nilFunc, .nilFunc, .nilFunc, .nilFunc, .nilFunc, .nilFunc, .nilFunc, .nilFunc, .nilFunc, .nilFunc, .nilFunc, .nilFunc, .nilFunc, .nilFunc, .nilFunc, .nilFunc] ∧ Below w.heap.size w w8 ∧ Wh w8 q8 8 ∧ Wh w8 q7 7 ∧ Wh w8 q6 6 ∧ Wh w8 q5 5 ∧ Wh w8 q4 4 ∧ Wh w8 q3 3 ∧ Wh w8 q2 2 ∧ Wh w8 q1 1 ∧ Wh w8 q0 0 ∧ True) := ⟨HB7.out.1.later hb8, HB7.out.2.1.trans (hb8.mono HB7.out.2.1.size), hw8, HB7.out.2.2.1.later hb8, HB7.out.2.2.2.1.later hb8, HB7.out.2.2.2.2.1.later hb8, HB7.out.2.2.2.2.2.1.later hb8, HB7.out.2.2.2.2.2.2.1.later hb8, HB7.out.2.2.2.2.2.2.2.1.later hb8, HB7.out.2.2.2.2.2.2.2.2.1.later hb8, HB7.out.2.2.2.2.2.2.2.2.2.1.later hb8, trivial⟩
  clear hw8 hb8 HB7
  go_wp2_with fail
  refine (whole_any 9 1 43 rfl at16_9 _).mono ?_
  rintro e w9 ⟨q9, rfl, hq9, hw9, hb9⟩
  have HQ9 : Hid (w.heap.size < q9) := Nat.lt_of_lt_of_le HB8.out.1.lt hq9
  clear hq9
  have HB9 : Hid (Bk w9 w.heap.size [.nilFunc, .nilFunc, .nilFunc, .nilFunc, .nilFunc, .nilFunc, .nilFunc, .nilFunc, .nilFunc, .nilFunc, .nilFunc, .nilFunc, .nilFunc, .nilFunc, .nilFunc, .nilFunc, .nilFunc, .nilFunc, .nilFunc, .nilFunc, .nilFunc, .nilFunc, .nilFunc, .nilFunc, .nilFunc, .nilFunc, .nilFunc, .nilFunc, .nilFunc, .nilFunc, .nilFunc, .nilFunc, .nilFunc, .nilFunc, .nilFunc, .nilFunc, .nilFunc, .nilFunc, .nilFunc, .nilFunc, .nilFunc, .nilFunc, .nilFunc, .nilFunc, .nilFunc, .nilFunc, .nilFunc, .nilFunc, .nilFunc, .nilFunc, .nilFunc, .nilFunc] ∧ Below w.heap.size w w9 ∧ Wh w9 q9 9 ∧ Wh w9 q8 8 ∧ Wh w9 q7 7 ∧ Wh w9 q6 6 ∧ Wh w9 q5 5 ∧ Wh w9 q4 4 ∧ Wh w9 q3 3 ∧ Wh w9 q2 2 ∧ Wh w9 q1 1 ∧ Wh w9 q0 0 ∧ True) := ⟨HB8.out.1.later hb9, HB8.out.2.1.trans (hb9.mono HB8.out.2.1.size), hw9, HB8.out.2.2.1.later hb9, HB8.out.2.2.2.1.later hb9, HB8.out.2.2.2.2.1.later hb9, HB8.out.2.2.2.2.2.1.later hb9, HB8.out.2.2.2.2.2.2.1.later hb9, HB8.out.2.2.2.2.2.2.2.1.later hb9, HB8.out.2.2.2.2.2.2.2.2.1.later hb9, HB8.out.2.2.2.2.2.2.2.2.2.1.later hb9, HB8.out.2.2.2.2.2.2.2.2.2.2.1.later hb9, trivial⟩
  clear hw9 hb9 HB8
  go_wp2_with fail
  refine (whole_any 10 1 44 rfl at16_10 _).mono ?_
  rintro e w10 ⟨q10, rfl, hq10, hw10, hb10⟩
  have HQ10 : Hid (w.heap.size < q10) := Nat.lt_of_lt_of_le HB9.out.1.lt hq10
  clear hq10
  have HB10 : Hid (Bk w10 w.heap.size [.nilFunc, .nilFunc, .nilFunc, .nilFunc, .nilFunc, .nilFunc, .nilFunc, .nilFunc, .nilFunc, .nilFunc, .nilFunc, .nilFunc, .nilFunc, .nilFunc, .nilFunc, .nilFunc, .nilFunc, .nilFunc, .nilFunc, .nilFunc, .nilFunc, .nilFunc, .nilFunc, .nilFunc, .nilFunc, .nilFunc, .nilFunc, .nilFunc, .nilFunc, .nilFunc, .nilFunc, .nilFunc, .nilFunc, .nilFunc, .nilFunc, .nilFunc, .nilFunc, .nilFunc, .nilFunc, .nilFunc, .nilFunc, .nilFunc, .nilFunc, .nilFunc, .nilFunc, .nilFunc, .nilFunc, .nilFunc, .nilFunc, .nilFunc, .nilFunc, .nilFunc] ∧ Below w.heap.size w w10 ∧ Wh w10 q10 10 ∧ Wh w10 q9 9 ∧ Wh w10 q8 8 ∧ Wh w10 q7 7 ∧ Wh w10 q6 6 ∧ Wh w10 q5 5 ∧ Wh w10 q4 4 ∧ Wh w10 q3 3 ∧ Wh w10 q2 2 ∧ Wh w10 q1 1 ∧ Wh w10 q0 0 ∧ True) := ⟨HB9.out.1.later hb10, HB9.out.2.1.trans (hb10.mono HB9.out.2.1.size), hw10, HB9.out.2.2.1.later hb10, HB9.out.2.2.2.1.later hb10, HB9.out.2.2.2.2.1.later hb10, HB9.out.2.2.2.2.2.1.later hb10, HB9.out.2.2.2.2.2.2.1.later hb10, HB9.out.2.2.2.2.2.2.2.1.later hb10, HB9.out.2.2.2.2.2.2.2.2.1.later hb10, HB9.out.2.2.2.2.2.2.2.2.2.1.later hb10, HB9.out.2.2.2.2.2.2.2.2.2.2.1.later hb10, HB9.out.2.2.2.2.2.2.2.2.2.2.2.1.later hb10, trivial⟩
  clear hw10 hb10 HB9
  go_wp2_with fail
  refine (whole_any 11 2 45 rfl at16_11 _).mono ?_
  rintro e w11 ⟨q11, rfl, hq11, hw11, hb11⟩
  have HQ11 : Hid (w.heap.size < q11) := Nat.lt_of_lt_of_le HB10.out.1.lt hq11
  clear hq11
  have HB11 : Hid (Bk w11 w.heap.size [.nilFunc, .nilFunc, .nilFunc, .nilFunc, .nilFunc, .nilFunc, .nilFunc, .nilFunc, .nilFunc, .nilFunc, .nilFunc, .nilFunc, .nilFunc, .nilFunc, .nilFunc, .nilFunc, .nilFunc, .nilFunc, .nilFunc, .nilFunc, .nilFunc, .nilFunc, .nilFunc, .nilFunc, .nilFunc, .nilFunc, .nilFunc, .nilFunc, .nilFunc, .nilFunc, .nilFunc, .nilFunc, .nilFunc, .nilFunc, .nilFunc, .nilFunc, .nilFunc, .nilFunc, .nilFunc, .nilFunc, .nilFunc, .nilFunc, .nilFunc, .nilFunc, .nilFunc, .nilFunc, .nilFunc, .nilFunc, .nilFunc, .nilFunc, .nilFunc, .nilFunc] ∧ Below w.heap.size w w11 ∧ Wh w11 q11 11 ∧ Wh w11 q10 10 ∧ Wh w11 q9 9 ∧ Wh w11 q8 8 ∧ Wh w11 q7 7 ∧ Wh w11 q6 6 ∧ Wh w11 q5 5 ∧ Wh w11 q4 4 ∧ Wh w11 q3 3 ∧ Wh w11 q2 2 ∧ Wh w11 q1 1 ∧ Wh w11 q0 0 ∧ True) := ⟨HB10.out.1.later hb11, HB10.out.2.1.trans (hb11.mono HB10.out.2.1.size), hw11, HB10.out.2.2.1.later hb11, HB10.out.2.2.2.1.later hb11, HB10.out.2.2.2.2.1.later hb11, HB10.out.2.2.2.2.2.1.later hb11, HB10.out.2.2.2.2.2.2.1.later hb11, HB10.out.2.2.2.2.2.2.2.1.later hb11, HB10.out.2.2.2.2.2.2.2.2.1.later hb11, HB10.out.2.2.2.2.2.2.2.2.2.1.later hb11, HB10.out.2.2.2.2.2.2.2.2.2.2.1.later hb11, HB10.out.2.2.2.2.2.2.2.2.2.2.2.1.later hb11, HB10.out.2.2.2.2.2.2.2.2.2.2.2.2.1.later hb11, trivial⟩
  clear hw11 hb11 HB10
  go_wp2_with fail
  refine (longs_any _).mono ?_
  rintro e w12 ⟨rfl, hb12⟩
  have HX : Hid (Bk w12 w.heap.size [.nilFunc, .nilFunc, .nilFunc, .nilFunc, .nilFunc, .nilFunc, .nilFunc, .nilFunc, .nilFunc, .nilFunc, .nilFunc, .nilFunc, .nilFunc, .nilFunc, .nilFunc, .nilFunc, .nilFunc, .nilFunc, .nilFunc, .nilFunc, .nilFunc, .nilFunc, .nilFunc, .nilFunc, .nilFunc, .nilFunc, .nilFunc, .nilFunc, .nilFunc, .nilFunc, .nilFunc, .nilFunc, .nilFunc, .nilFunc, .nilFunc, .nilFunc, .nilFunc, .nilFunc, .nilFunc, .nilFunc, .nilFunc, .nilFunc, .nilFunc, .nilFunc, .nilFunc, .nilFunc, .nilFunc, .nilFunc, .nilFunc, .nilFunc, .nilFunc, .nilFunc] ∧ Below w.heap.size w w12 ∧ Wh w12 q11 11 ∧ Wh w12 q10 10 ∧ Wh w12 q9 9 ∧ Wh w12 q8 8 ∧ Wh w12 q7 7 ∧ Wh w12 q6 6 ∧ Wh w12 q5 5 ∧ Wh w12 q4 4 ∧ Wh w12 q3 3 ∧ Wh w12 q2 2 ∧ Wh w12 q1 1 ∧ Wh w12 q0 0 ∧ True) := ⟨HB11.out.1.later hb12, HB11.out.2.1.trans (hb12.mono HB11.out.2.1.size), HB11.out.2.2.1.later hb12, HB11.out.2.2.2.1.later hb12, HB11.out.2.2.2.2.1.later hb12, HB11.out.2.2.2.2.2.1.later hb12, HB11.out.2.2.2.2.2.2.1.later hb12, HB11.out.2.2.2.2.2.2.2.1.later hb12, HB11.out.2.2.2.2.2.2.2.2.1.later hb12, HB11.out.2.2.2.2.2.2.2.2.2.1.later hb12, HB11.out.2.2.2.2.2.2.2.2.2.2.1.later hb12, HB11.out.2.2.2.2.2.2.2.2.2.2.2.1.later hb12, HB11.out.2.2.2.2.2.2.2.2.2.2.2.2.1.later hb12, HB11.out.2.2.2.2.2.2.2.2.2.2.2.2.2.1.later hb12, trivial⟩
  clear hb12 HB11
  go_wp2_with (refine store_bk rfl 61 _ _ rfl w.heap.size 0 [.nilFunc, .nilFunc, .nilFunc, .nilFunc, .nilFunc, .nilFunc, .nilFunc, .nilFunc, .nilFunc, .nilFunc, .nilFunc, .nilFunc, .nilFunc, .nilFunc, .nilFunc, .nilFunc, .nilFunc, .nilFunc, .nilFunc, .nilFunc, .nilFunc, .nilFunc, .nilFunc, .nilFunc, .nilFunc, .nilFunc, .nilFunc, .nilFunc, .nilFunc, .nilFunc, .nilFunc, .nilFunc, .nilFunc, .nilFunc, .nilFunc, .nilFunc, .nilFunc, .nilFunc, .nilFunc, .nilFunc, .nilFunc, .nilFunc, .nilFunc, .nilFunc, .nilFunc, .nilFunc, .nilFunc, .nilFunc, .nilFunc, .nilFunc, .nilFunc, .nilFunc] (fl [some q0, some q1, some q2, some q3, some q4, some q5, some q6, some q7, some q8, some q9, some q10, some q11, none]) (fl [some q0, some q1, some q2, some q3, some q4, some q5, some q6, some q7, some q8, some q9, some q10, some q11, none]) rfl rfl 52 rfl HX.out.1 (Nat.le_refl _) rfl (by kernel_rfl) (by intro v hv; obtain ⟨x, _, hx⟩ := List.mem_flatMap.1 hv; exact pr_one x v hx) ?_; intro w13 h1 h2 h3 h4)
  have HW : Hid (Wh w13 q0 0 ∧ Wh w13 q1 1 ∧ Wh w13 q2 2 ∧ Wh w13 q3 3 ∧ Wh w13 q4 4 ∧ Wh w13 q5 5 ∧ Wh w13 q6 6 ∧ Wh w13 q7 7 ∧ Wh w13 q8 8 ∧ Wh w13 q9 9 ∧ Wh w13 q10 10 ∧ Wh w13 q11 11 ∧ True) := ⟨wh_put h2 HX.out.2.2.2.2.2.2.2.2.2.2.2.2.2.1 HQ0.out, wh_put h2 HX.out.2.2.2.2.2.2.2.2.2.2.2.2.1 HQ1.out, wh_put h2 HX.out.2.2.2.2.2.2.2.2.2.2.2.1 HQ2.out, wh_put h2 HX.out.2.2.2.2.2.2.2.2.2.2.1 HQ3.out, wh_put h2 HX.out.2.2.2.2.2.2.2.2.2.1 HQ4.out, wh_put h2 HX.out.2.2.2.2.2.2.2.2.1 HQ5.out, wh_put h2 HX.out.2.2.2.2.2.2.2.1 HQ6.out, wh_put h2 HX.out.2.2.2.2.2.2.1 HQ7.out, wh_put h2 HX.out.2.2.2.2.2.1 HQ8.out, wh_put h2 HX.out.2.2.2.2.1 HQ9.out, wh_put h2 HX.out.2.2.2.1 HQ10.out, wh_put h2 HX.out.2.2.1 HQ11.out, trivial⟩
  refine ret_c1 (ty := 61) rfl w.heap.size _ rfl h1 _ Try.underlying61 rfl (by kernel_rfl) rfl ⟨fun i => [q0, q1, q2, q3, q4, q5, q6, q7, q8, q9, q10, q11].getD i 0, rfl, fun i hi => ?_, h3 _ _ (Nat.le_refl _) HX.out.2.1⟩
  rcases (show i = 0 ∨ i = 1 ∨ i = 2 ∨ i = 3 ∨ i = 4 ∨ i = 5 ∨ i = 6 ∨ i = 7 ∨ i = 8 ∨ i = 9 ∨ i = 10 ∨ i = 11 by omega) with rfl | rfl | rfl | rfl | rfl | rfl | rfl | rfl | rfl | rfl | rfl | rfl
  · exact ⟨HW.out.1, Nat.le_of_lt HQ0.out⟩
  · exact ⟨HW.out.2.1, Nat.le_of_lt HQ1.out⟩
  · exact ⟨HW.out.2.2.1, Nat.le_of_lt HQ2.out⟩
  · exact ⟨HW.out.2.2.2.1, Nat.le_of_lt HQ3.out⟩
  · exact ⟨HW.out.2.2.2.2.1, Nat.le_of_lt HQ4.out⟩
  · exact ⟨HW.out.2.2.2.2.2.1, Nat.le_of_lt HQ5.out⟩
  · exact ⟨HW.out.2.2.2.2.2.2.1, Nat.le_of_lt HQ6.out⟩
  · exact ⟨HW.out.2.2.2.2.2.2.2.1, Nat.le_of_lt HQ7.out⟩
  · exact ⟨HW.out.2.2.2.2.2.2.2.2.1, Nat.le_of_lt HQ8.out⟩
  · exact ⟨HW.out.2.2.2.2.2.2.2.2.2.1, Nat.le_of_lt HQ9.out⟩
  · exact ⟨HW.out.2.2.2.2.2.2.2.2.2.2.1, Nat.le_of_lt HQ10.out⟩
  · exact ⟨HW.out.2.2.2.2.2.2.2.2.2.2.2.1, Nat.le_of_lt HQ11.out⟩
end Go.Proofs.Yteklcolphbcjlaa
