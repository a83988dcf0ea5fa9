/- Jobs by their IDs in a map; walks of dover's byID and May. -/
import Derived.Test.YtjaaabliefcgaaaO6
namespace Go.Proofs.Ytjaaabliefcgaaa
open Go.RowKit Go.Maps Go.Shelf

theorem keysInt : Keyed Try.prog 3 := int_keyed Try.underlying3
def keyI (i : Int) : Lit := .int .i64 i
theorem keyI_is {i : Int} (h : okI i) : keyOf Try.prog 3 (.int .i64 i) = some (keyI i) := keyOf_int_mk Try.underlying3 (okI_wf h)
theorem keyI_ne {i j : Int} (h : i ≠ j) : keyI i ≠ keyI j := fun e => h (by unfold keyI at e; simpa using e)
theorem keyI_key (i : Int) : WideAt.IsKeyLit (keyI i) := trivial
def datA (a : Ap) : DataW Unit := .agg [.lit (.int .i64 a.id), .lit (.int .i64 a.due), .lit (.int .i64 a.c), .lit (.int .i64 a.v), .lit (.int .i64 a.r)]
def encA (v : Value) : Option (DataW Unit × List MemPlace) :=
  match v with
  | .agg cs => match cs.toList with
    | [.int .i64 i, .int .i64 d, .int .i64 c, .int .i64 v, .int .i64 r] => some (datA ⟨i, d, c, v, r⟩, [])
    | _ => none
  | _ => none
theorem encA_mk (i d c v r : Int) : encA (.agg #[.int .i64 i, .int .i64 d, .int .i64 c, .int .i64 v, .int .i64 r]) = some (datA ⟨i, d, c, v, r⟩, []) := rfl
theorem encA_inv {v : Value} {y : DataW Unit × List MemPlace} (h : encA v = some y) : ∃ a, v = apV a ∧ y = (datA a, []) := by
  unfold encA at h
  split at h
  · next cs =>
    split at h
    · next i d c v r hc =>
      cases h
      refine ⟨⟨i, d, c, v, r⟩, ?_, rfl⟩
      obtain ⟨l⟩ := cs
      simp at hc
      rw [hc]; rfl
    · cases h
  · cases h
theorem datA_inj {a b : Ap} (h : datA a = datA b) : a = b := by
  unfold datA at h
  simp at h
  obtain ⟨h0, h1, h2, h3, h4⟩ := h
  exact Ap.ext' h0 h1 h2 h3 h4
/-- The last one of that ID among the first ones; a zero one, if there is none. -/
def lkA (xs : List Ap) : Nat → Int → Ap
  | 0, _ => apZ
  | j + 1, id => if (atA xs j).id = id then atA xs j else lkA xs j id
/-- How many IDs the first ones have. -/
def hasA (xs : List Ap) (j : Nat) (id : Int) : Bool := (xs.take j).any fun a => decide (a.id = id)
def dstA (xs : List Ap) : Nat → Nat
  | 0 => 0
  | j + 1 => if hasA xs j (atA xs j).id = true then dstA xs j else dstA xs j + 1
theorem hasA_next {xs : List Ap} {j : Nat} (h : j < xs.length) (id : Int) : hasA xs (j + 1) id = (hasA xs j id || decide ((atA xs j).id = id)) := by
  unfold hasA; rw [takeA_next h, List.any_append]; simp
theorem dstA_le (xs : List Ap) : ∀ j, dstA xs j ≤ j
  | 0 => Nat.le_refl _
  | j + 1 => by have := dstA_le xs j; unfold dstA; split <;> omega
structure HoldA (D : DataW Unit) (xs : List Ap) (j : Nat) : Prop where
  at' : ∀ id, D.atKey (keyI id) (datA apZ) = datA (lkA xs j id)
  has' : ∀ id, Maps.has D (keyI id) = hasA xs j id
  size' : Maps.size D = dstA xs j
theorem holdA_none (xs : List Ap) : HoldA (.map []) xs 0 := ⟨fun _ => rfl, fun _ => rfl, rfl⟩
theorem HoldA.put {D : DataW Unit} {xs : List Ap} {j : Nat} (h : HoldA D xs j) (hD : Tidy D) (hj : j < xs.length) : HoldA (D.put (keyI (atA xs j).id) (datA (atA xs j))) xs (j + 1) := by
  refine ⟨fun id => ?_, fun id => ?_, ?_⟩
  · unfold lkA
    by_cases c : (atA xs j).id = id
    · rw [if_pos c, ← c]; exact atKey_put_same hD.isMap (keyI_key _) _ _
    · rw [if_neg c, atKey_put_other (keyI_ne (fun e => c e.symm))]; exact h.at' id
  · rw [hasA_next hj]
    by_cases c : (atA xs j).id = id
    · rw [← c, has_put_same hD.isMap (keyI_key _)]; simp
    · rw [has_put_other (keyI_ne (fun e => c e.symm)), h.has', decide_eq_false c, Bool.or_false]
  · rw [size_put hD, h.has', h.size']
    rfl
def MapA (w : World) (b : Nat) (xs : List Ap) : Prop := ∃ D m, w.ownsMap Try.prog 3 encA b m D ∧ HoldA D xs xs.length
theorem MapA.kept {w w' : World} {b : Nat} {xs : List Ap} {row : Option Nat} (h : MapA w b xs) (hg : w.grownBy w' row) (hne : some b ≠ row) : MapA w' b xs := by
  obtain ⟨D, m, h1, h2⟩ := h
  exact ⟨D, m, h1.kept hg hne, h2⟩
theorem grown_below {w w' : World} (hb : Below w.heap.size w w') : w.grownBy w' none := ⟨hb.os, hb.tape, hb.output, hb.size, fun k hk _ => hb.block k hk⟩
theorem MapA.later {w w' : World} {b : Nat} {xs : List Ap} (h : MapA w b xs) (hb : Below w.heap.size w w') : MapA w' b xs := h.kept (grown_below hb) (by simp)
theorem MapA.lt {w : World} {b : Nat} {xs : List Ap} (h : MapA w b xs) : b < w.heap.size := by
  obtain ⟨D, m, h1, _⟩ := h; exact h1.lt
theorem zeroApe (w : World) : (zeroValue 30).run Try.prog w = .ok (apV apZ) w := by kernel_rfl
theorem MapA.look {w : World} {b : Nat} {xs : List Ap} (h : MapA w b xs) {id : Int} (hi : okI id) :
    (Instr.lookup 45 (.map (some b)) (.int .i64 id) false).run Try.prog w = .ok (apV (lkA xs xs.length id)) w := by
  obtain ⟨D, m, h1, h2⟩ := h
  obtain ⟨v, ps, hrun, hR⟩ := h1.lookup keysInt Try.underlying45 (zeroApe w) (zd := datA apZ) (zp := []) rfl (keyI_is hi)
  rw [h2.at' id] at hR
  obtain ⟨a, rfl, e⟩ := encA_inv hR
  simp only [Prod.mk.injEq] at e
  rw [hrun, datA_inj e.1]

theorem run_makeHint (n : Int) (w : World) : (Instr.makeMap 45 (some (.int .i64 n))).run Try.prog w = .ok (.map (some w.heap.size)) (w.alloc (.map #[] 0)) := by
  simp [Instr.makeMap, run_underlying Try.underlying45, asInt, asIntOf, Result.andThen]
set_option maxHeartbeats 1000000 in
set_option maxRecDepth 100000 in
theorem byID_any (xs : List Ap) (v : Value) (w : World) (h : Aps w v xs) (hx : xs.length ≤ 100) (hw : ∀ a ∈ xs, wfK a.key) :
    Calls Try.prog 32 #[v] w fun e w' => e = .returned (.map (some w.heap.size)) ∧ MapA w' w.heap.size xs ∧ Below w.heap.size w w' := by
  have HW : Hid (∀ j, j < xs.length → okI (atA xs j).id) := fun j hj => (hw _ (atA_mem hj)).2
  obtain ⟨ad, cap, rfl, h1, h2, h0, h3⟩ := h.open
  clear h hw
  have hmk := run_makeHint
  go_enter Try.func32, Try.ntmps32
  go_wp2_with fail
  go_loopw [11] (fun i wr => ∃ (j : Nat) (D : DataW Unit), j ≤ xs.length ∧ i = .int .i64 j ∧ Hid (wr.ownsMap Try.prog 3 encA w.heap.size j D ∧ HoldA D xs j) ∧ Below w.heap.size w wr) (fun i _ => ((xs.length : Int) - intOf i).toNat)
  case atStart => exact ⟨0, .map [], by omega, rfl, ⟨World.ownsMap_made _ _ _ _, holdA_none _⟩, (Below.refl _ _).alloc (Nat.le_refl _) _⟩
  case round =>
    obtain ⟨j, D, hj, rfl, HH, hbw⟩ := hrel
    by_cases hlt : (j : Int) < xs.length
    · obtain ⟨bk, o, rfl, h4⟩ := h3 (by omega)
      obtain ⟨k0, k1, k2, k3, k4⟩ := h4 j (by omega)
      have c0 := cell_later hbw k0
      have c1 := cell_later hbw k1
      have c2 := cell_later hbw k2
      have c3 := cell_later hbw k3
      have c4 := cell_later hbw k4
      have sb : bk < w.heap.size := World.block_lt_of_cell? _ _ k0
      have sw := hbw.size
      have HP : Hid (HoldA (D.put (keyI (atA xs j).id) (datA (atA xs j))) xs (j + 1)) := HH.out.2.put (HH.out.1.tidy keysInt) (by omega)
      have HO : Hid (okI (atA xs j).id) := HW.out j (by omega)
      clear h4 h3 k0 k1 k2 k3 k4
      generalize atA xs j = a at *
      obtain ⟨ii, dd, cc, vv, rr⟩ := a
      simp only at c0 c1 c2 c3 c4 HO
      have HM : Hid ((wr.alloc (.cells #[.int .i64 ii, .int .i64 dd, .int .i64 cc, .int .i64 vv, .int .i64 rr] 30)).ownsMap Try.prog 3 encA w.heap.size j D) := HH.out.1.alloc _
      go_wp2_with (first
        | (at_mapUpdate; refine wpList_mapUpdate_own _ rfl _ _ _ 45 rfl 3 30 keysInt Try.underlying45 _ w.heap.size j _ rfl HM.out (by unfold maxLen; omega) _ _ _ rfl rfl (keyI_is HO.out) _ [] (encA_mk _ _ _ _ _) ?_; intro w3 hown3 hgrow3)
        | go_in)
      have HN : Hid (w3.ownsMap Try.prog 3 encA w.heap.size (j + 1) (D.put (keyI ii) (datA ⟨ii, dd, cc, vv, rr⟩)) ∧ HoldA (D.put (keyI ii) (datA ⟨ii, dd, cc, vv, rr⟩)) xs (j + 1)) := ⟨hown3, HP.out⟩
      have hb3 : Below w.heap.size w w3 := (hbw.alloc sw _).grown hgrow3 (by simp; omega) (fun k hk => by cases hk; exact Nat.le_refl _)
      clear hown3 hgrow3 HP HM HH
      go_wp2_with fail
      go_roundw
      case rel => exact ⟨j + 1, _, by omega, by go_num, HN.out, hb3⟩
      case measure => simp [intOf]; omega
    · obtain rfl : j = xs.length := by omega
      go_wp2_with fail
      go_ret
      exact ⟨rfl, ⟨D, _, HH.out.1, HH.out.2⟩, hbw⟩

/-- May they be? -/
def mayL (xs : List Ap) (now : Int) : Bool := decide (xs.length ≤ 4) && (decide (0 ≤ now ∧ now ≤ 549755813888) && (decide (dstA xs xs.length = xs.length) && xs.all mayA))
theorem MapA.len {w : World} {b : Nat} {xs : List Ap} (h : MapA w b xs) : (Builtin.len_ #[45] 3 #[.map (some b)]).run Try.prog w = .ok (.int .i64 (dstA xs xs.length)) w := by
  obtain ⟨D, m, h1, h2⟩ := h
  rw [← h2.size']
  exact h1.len Try.underlying45 _
theorem all_next {xs : List Ap} {j : Nat} (h : j < xs.length) (p : Ap → Bool) : (xs.take (j + 1)).all p = ((xs.take j).all p && p (atA xs j)) := by
  rw [takeA_next h, List.all_append]; simp
theorem all_not {xs : List Ap} {j : Nat} (h : j < xs.length) {p : Ap → Bool} (hp : p (atA xs j) = false) : xs.all p = false := by
  rw [List.all_eq_false]; exact ⟨_, atA_mem h, by simp [hp]⟩

set_option maxHeartbeats 1000000 in
set_option maxRecDepth 100000 in
theorem may13_any (xs : List Ap) (v : Value) (now : Int) (w : World) (h : Aps w v xs) (hw : ∀ a ∈ xs, wfK a.key) :
    Calls Try.prog 16 #[v, .int .i64 now] w fun e w' => e = .returned (.bool (mayL xs now)) ∧ Below w.heap.size w w' := by
  have HW : Hid (∀ a ∈ xs, wfK a.key) := hw
  have HA : Hid (Aps w v xs) := h
  obtain ⟨ad, cap, rfl, h1, h2, h0, h3⟩ := h.open
  clear h hw
  by_cases hx : xs.length ≤ 4
  rotate_left
  · have HF : Hid (mayL xs now = false) := by show _ = _; unfold mayL; rw [decide_eq_false hx, Bool.false_and]
    have hx' : (4 : Int) < xs.length := by omega
    go_enter Try.func16, Try.ntmps16
    go_wp2
    go_ret
    exact ⟨ret_b HF.out.symm, Below.refl _ _⟩
  have hx' : ¬ (4 : Int) < xs.length := by omega
  obtain ⟨q, hq⟩ : ∃ q, decide (0 ≤ now ∧ now ≤ 549755813888) = q := ⟨_, rfl⟩
  have HF : Hid (mayL xs now = (q && (decide (dstA xs xs.length = xs.length) && xs.all mayA))) := by show _ = _; unfold mayL; rw [decide_eq_true hx, Bool.true_and, hq]
  have HQ : Hid (decide (0 ≤ now ∧ now ≤ 549755813888) = q) := hq
  clear hq
  go_enter Try.func16, Try.ntmps16
  go_wp2_with fail
  refine (dwithin_any _ _ _ _).mono ?_
  rintro e w1 ⟨rfl, rfl⟩
  rw [HQ.out]
  cases q
  · go_wp2
    go_ret
    exact ⟨ret_b (by rw [HF.out]; rfl), Below.refl _ _⟩
  go_wp2_with fail
  refine (byID_any xs _ _ HA.out (by omega) HW.out).mono ?_
  rintro e w2 ⟨rfl, hm, hb2⟩
  have hln := hm.len
  have hle := dstA_le xs xs.length
  have HA2 : Hid (Aps w2 (.slice ad xs.length cap) xs) := HA.out.later hb2
  obtain ⟨d, hd⟩ : ∃ d, dstA xs xs.length = d := ⟨_, rfl⟩
  rw [hd] at hln hle HF
  clear hd hm h3
  by_cases hdn : d = xs.length
  rotate_left
  · have HG : Hid (mayL xs now = false) := by show _ = _; rw [HF.out, decide_eq_false hdn]; simp
    have hlt : (d : Int) < xs.length := by omega
    go_wp2
    go_ret
    exact ⟨ret_b HG.out.symm, hb2⟩
  have HG : Hid (mayL xs now = xs.all mayA) := by show _ = _; rw [HF.out, decide_eq_true hdn]; simp
  have hlt : ¬ (d : Int) < xs.length := by omega
  clear HF HA
  obtain ⟨_, _, e', _, _, _, h3⟩ := HA2.out.open
  simp only [Value.slice.injEq, true_and] at e'
  obtain ⟨rfl, rfl⟩ := e'
  go_wp2_with fail
  go_loopw [25] (fun i wr => ∃ (j : Nat), j ≤ xs.length ∧ i = .int .i64 j ∧ Hid ((xs.take j).all mayA = true) ∧ Below w2.heap.size w2 wr) (fun i _ => ((xs.length : Int) - intOf i).toNat)
  case atStart => exact ⟨0, by omega, rfl, (by rfl : Hid _), Below.refl _ _⟩
  case round =>
    obtain ⟨j, hj, rfl, HL, hbw⟩ := hrel
    by_cases hjl : (j : Int) < xs.length
    · obtain ⟨bk, o, rfl, h4⟩ := h3 (by omega)
      obtain ⟨k0, k1, k2, k3, k4⟩ := h4 j (by omega)
      have c0 := cell_later hbw k0
      have c1 := cell_later hbw k1
      have c2 := cell_later hbw k2
      have c3 := cell_later hbw k3
      have c4 := cell_later hbw k4
      have HN : Hid (mayA (atA xs j) = true → (xs.take (j + 1)).all mayA = true) := fun hp => by rw [all_next (by omega), HL.out, hp]; rfl
      have HX : Hid (mayA (atA xs j) = false → xs.all mayA = false) := fun hp => all_not (by omega) hp
      have sw := hbw.size
      clear h4 h3 k0 k1 k2 k3 k4 HL
      generalize atA xs j = a at *
      obtain ⟨ii, dd, cc, vv, rr⟩ := a
      simp only at c0 c1 c2 c3 c4
      have hbW : Below w2.heap.size w2 (wr.alloc (.cells #[.int .i64 ii, .int .i64 dd, .int .i64 cc, .int .i64 vv, .int .i64 rr] 30)) := hbw.alloc sw _
      go_wp2_with fail
      refine (mayOne_any ii dd cc vv rr _).mono ?_
      rintro e w3 ⟨rfl, hb3⟩
      have HB3 : Hid (Below w2.heap.size w2 w3) := hbW.trans (hb3.mono hbW.size)
      obtain ⟨p, hp⟩ : ∃ p, mayA ⟨ii, dd, cc, vv, rr⟩ = p := ⟨_, rfl⟩
      rw [hp] at HN HX ⊢
      clear hp hb3 hbW hbw
      cases p
      · go_wp2_with fail
        go_ret
        exact ⟨ret_b (by rw [HG.out, HX.out (by trivial)]), hb2.trans (HB3.out.mono hb2.size)⟩
      · go_wp2_with fail
        go_roundw
        case rel => exact ⟨j + 1, by omega, by go_num, HN.out (by trivial), HB3.out⟩
        case measure => simp [intOf]; omega
    · obtain rfl : j = xs.length := by omega
      have HT : Hid (xs.all mayA = true) := by have := HL.out; rw [List.take_length] at this; exact this
      go_wp2_with fail
      go_ret
      exact ⟨ret_b (by rw [HG.out, HT.out]), hb2.trans (hbw.mono hb2.size)⟩
end Go.Proofs.Ytjaaabliefcgaaa
