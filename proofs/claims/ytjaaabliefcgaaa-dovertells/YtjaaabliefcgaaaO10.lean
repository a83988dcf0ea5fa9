/- Walk of dover's part. -/
import Derived.Test.YtjaaabliefcgaaaO8
namespace Go.Proofs.Ytjaaabliefcgaaa
open Go.RowKit Go.Maps Go.Shelf

theorem rows_ne {w : World} {b1 b2 : Nat} {e1 e2 : TypeId} {s1 s2 : Nat} {v1 v2 : Value} {n1 n2 : Nat} {xs1 xs2 : List Value} (h1 : w.ownsRow b1 e1 s1 v1 n1 xs1) (h2 : w.ownsRow b2 e2 s2 v2 n2 xs2) (he : e1 ≠ e2) : v1.ownBlock = none ∨ v1.ownBlock ≠ v2.ownBlock := by
  rcases h1.2 with ⟨rfl, _⟩ | ⟨g, cap, cur, rfl, _, hg, _⟩
  · exact .inl rfl
  · rcases h2.2 with ⟨rfl, _⟩ | ⟨g', cap', cur', rfl, _, hg', _⟩
    · exact .inr (by simp [Value.ownBlock])
    · refine .inr (fun e => ?_)
      simp [Value.ownBlock] at e
      subst e
      rw [hg] at hg'
      simp at hg'
      exact he hg'.2
/-- Integers of the call's own. -/
def OwnN (w : World) (base : Nat) (v : Value) (xs : List Int) : Prop := w.ownsRow base 3 1 v xs.length (ivs xs)
theorem OwnN.later {w w' : World} {base : Nat} {v : Value} {xs : List Int} (h : OwnN w base v xs) (hb : Below w.heap.size w w') : OwnN w' base v xs := own_laterF h hb
theorem OwnN.kept {w w' : World} {base : Nat} {v : Value} {xs : List Int} {row : Option Nat} (h : OwnN w base v xs) (hg : w.grownBy w' row) (hr : ∀ k, row = some k → k < base) : OwnN w' base v xs := by
  unfold OwnN at h ⊢
  refine h.kept hg ?_
  cases c : v.ownBlock with
  | none => exact .inl rfl
  | some k =>
    refine .inr (fun e => ?_)
    have := (h.lt k c).1
    have := hr k e.symm
    omega
theorem OwnN.low {w : World} {base : Nat} {v : Value} {xs : List Int} (h : OwnN w base v xs) : ∀ k, v.ownBlock = some k → base ≤ k := fun k e => by
  unfold OwnN at h
  exact (h.lt k e).1
theorem OwnN.nums {w : World} {base : Nat} {v : Value} {xs : List Int} (h : OwnN w base v xs) : Nums w v xs ∧ NilCap v := by
  unfold OwnN at h
  exact ⟨(Nums.own h).1, (Nums.own h).2.1⟩
theorem OwnN.nil (w : World) (base : Nat) : OwnN w base (.slice none 0 0) [] := World.ownsRow_nil _ _ _ _
theorem OwnA.nil (w : World) (base : Nat) : OwnA w base (.slice none 0 0) [] := World.ownsRow_nil _ _ _ _

def ableB (now : Int) (a : Ap) : Bool := decide (0 ≤ laxA a now)
/-- Those that can still end. -/
def ableA (xs : List Ap) (now : Int) : List Ap := xs.filter (ableB now)
/-- The IDs of the others. -/
def lateA (xs : List Ap) (now : Int) : List Int := idsA (xs.filter fun a => !ableB now a)
theorem ableA_next {xs : List Ap} {j : Nat} (h : j < xs.length) (now : Int) : ableA (xs.take (j + 1)) now = if ableB now (atA xs j) = true then ableA (xs.take j) now ++ [atA xs j] else ableA (xs.take j) now := by
  rw [takeA_next h]
  unfold ableA
  rw [List.filter_append]
  cases c : ableB now (atA xs j) <;> simp [c]
theorem lateA_next {xs : List Ap} {j : Nat} (h : j < xs.length) (now : Int) : lateA (xs.take (j + 1)) now = if ableB now (atA xs j) = true then lateA (xs.take j) now else lateA (xs.take j) now ++ [(atA xs j).id] := by
  rw [takeA_next h]
  unfold lateA idsA
  rw [List.filter_append, List.map_append]
  cases c : ableB now (atA xs j) <;> simp [c]
theorem ableA_len (xs : List Ap) (now : Int) : (ableA xs now).length ≤ xs.length := List.length_filter_le _ _
theorem lateA_len (xs : List Ap) (now : Int) : (lateA xs now).length ≤ xs.length := by
  unfold lateA; rw [idsA_len]; exact List.length_filter_le _ _
/-- What part answers. -/
def PartE (xs : List Ap) (now : Int) (w : World) (e : Ending) (w' : World) : Prop :=
  ∃ u g, e = .returned (.tuple #[u, g]) ∧ OwnA w' w.heap.size u (ableA xs now) ∧ OwnN w' w.heap.size g (lateA xs now) ∧ Below w.heap.size w w'

set_option maxHeartbeats 1000000 in
set_option maxRecDepth 100000 in
theorem part_any (xs : List Ap) (v : Value) (now : Int) (w : World) (h : Aps w v xs) (hx : xs.length ≤ 10) (hn : nearL xs) (h0 : -4503599627370496 ≤ now) (h1 : now ≤ 4503599627370496) :
    Calls Try.prog 25 #[v, .int .i64 now] w (PartE xs now w) := by
  obtain ⟨i0, hi, hz0, hz1, hz2⟩ := info_parts Try.infoInt
  obtain ⟨a0, ha, ha0, ha1, ha2⟩ := info_parts Try.infoApe
  have HNR : Hid (nearL xs) := hn
  obtain ⟨ad, cap, rfl, h2, h3, h4, h5⟩ := h.open
  clear h hn
  go_enter Try.func25, Try.ntmps25
  go_wp2_with fail
  go_loopw [6, 7, 12] (fun a g i wr => ∃ (j : Nat) (av gv : Value), av = a ∧ gv = g ∧ j ≤ xs.length ∧ i = .int .i64 j ∧ Hid (OwnA wr w.heap.size av (ableA (xs.take j) now) ∧ OwnN wr w.heap.size gv (lateA (xs.take j) now)) ∧ Below w.heap.size w wr) (fun _ _ i _ => ((xs.length : Int) - intOf i).toNat)
  case atStart => exact ⟨0, _, _, rfl, rfl, by omega, rfl, ⟨OwnA.nil _ _, OwnN.nil _ _⟩, Below.refl _ _⟩
  case round =>
    obtain ⟨j, av, gv, rfl, rfl, hj, rfl, HH, hbw⟩ := hrel
    by_cases hjl : (j : Int) < xs.length
    · obtain ⟨bk, o, rfl, h6⟩ := h5 (by omega)
      obtain ⟨k0, k1, k2, k3, k4⟩ := h6 j (by omega)
      have c0 := cell_later hbw k0
      have c1 := cell_later hbw k1
      have c2 := cell_later hbw k2
      have c3 := cell_later hbw k3
      have c4 := cell_later hbw k4
      have hnr := HNR.out _ (atA_mem (show j < xs.length by omega))
      have HB := ableA_next (show j < xs.length by omega) now
      have HL := lateA_next (show j < xs.length by omega) now
      have hl1 := ableA_len (xs.take j) now
      have hl2 := lateA_len (xs.take j) now
      rw [List.length_take] at hl1 hl2
      have sw := hbw.size
      clear h6 h5 k0 k1 k2 k3 k4
      generalize atA xs j = a at *
      obtain ⟨ii, dd, cc, vv, rr⟩ := a
      simp only at c0 c1 c2 c3 c4
      have HB' : Hid (_ = _) := HB
      have HL' : Hid (_ = _) := HL
      have HX : Hid (Bx5 (wr.alloc (.cells #[.int .i64 ii, .int .i64 dd, .int .i64 cc, .int .i64 vv, .int .i64 rr] 30)) wr.heap.size ii dd cc vv rr) := Bx5.new _ _ _ _ _ _ _
      have hbW : Below wr.heap.size wr (wr.alloc (.cells #[.int .i64 ii, .int .i64 dd, .int .i64 cc, .int .i64 vv, .int .i64 rr] 30)) := (Below.refl _ _).alloc (Nat.le_refl _) _
      clear HB HL
      go_wp2_with fail
      refine (lax_any ii dd cc vv rr now _ hnr (by omega) (by omega)).mono ?_
      rintro e w3 ⟨rfl, hb3⟩
      have hb13 := hbW.trans (hb3.mono hbW.size)
      have HB3 : Hid (Below w.heap.size w w3) := hbw.trans (hb13.mono sw)
      have HH3 : Hid (OwnA w3 w.heap.size av (ableA (xs.take j) now) ∧ OwnN w3 w.heap.size gv (lateA (xs.take j) now)) := ⟨HH.out.1.later hb13, HH.out.2.later hb13⟩
      obtain ⟨x0, x1, x2, x3, x4⟩ := HX.out.later hb3
      have s3 := HB3.out.size
      have l3 : wr.heap.size < w3.heap.size := World.block_lt_of_cell? _ _ x0
      clear hb3 hb13 hbW hbw HX HH hnr c0 c1 c2 c3 c4
      have HD : Hid (ableB now ⟨ii, dd, cc, vv, rr⟩ = decide (0 ≤ laxA ⟨ii, dd, cc, vv, rr⟩ now)) := rfl
      obtain ⟨x, hx'⟩ : ∃ x, laxA ⟨ii, dd, cc, vv, rr⟩ now = x := ⟨_, rfl⟩
      rw [hx'] at HD ⊢
      clear hx'
      by_cases hc : x < 0
      · have HDF : Hid (ableB now ⟨ii, dd, cc, vv, rr⟩ = false) := by show _ = _; rw [HD.out]; exact decide_eq_false (by omega)
        have HE1 : Hid (ableA (xs.take (j + 1)) now = ableA (xs.take j) now) := by show _ = _; rw [HB'.out, HDF.out]; rfl
        have HE2 : Hid (lateA (xs.take (j + 1)) now = lateA (xs.take j) now ++ [ii]) := by show _ = _; rw [HL'.out, HDF.out]; rfl
        have HG3 : Hid (OwnN (w3.alloc (.cells #[.int .i64 ii] 3)) w.heap.size gv (lateA (xs.take j) now)) := HH3.out.2.later ((Below.refl _ _).alloc (Nat.le_refl _) _)
        have HA3 : Hid (OwnA (w3.alloc (.cells #[.int .i64 ii] 3)) w.heap.size av (ableA (xs.take j) now)) := HH3.out.1.later ((Below.refl _ _).alloc (Nat.le_refl _) _)
        have HB4 : Hid (Below w.heap.size w (w3.alloc (.cells #[.int .i64 ii] 3))) := HB3.out.alloc s3 _
        clear HB' HL' HD HDF HH3 HB3
        go_wp2_with (first
          | (at_builtin; refine wpList_append_own_at _ rfl _ _ 25 rfl w.heap.size 3 i0 _ 1 8 Try.underlying25 hi hz0 hz1 hz2 rfl (by decide) gv _ _ rfl HG3.out ⟨w3.heap.size, 0, none⟩ 1 1 [.int .i64 ii] rfl rfl (cell_one_new _ _ _) (by intro u hu; simp at hu; rw [hu]; rfl) (by unfold maxLen; omega) (by omega) (by simp; omega) ?_; intro v' w4 hown4 hg4 _ hat4))
        have HN : Hid (OwnA w4 w.heap.size av (ableA (xs.take (j + 1)) now) ∧ OwnN w4 w.heap.size v' (lateA (xs.take (j + 1)) now)) := by
          rw [HE1.out, HE2.out]
          refine ⟨?_, ?_⟩
          · have h1 := HA3.out
            have h2 := HG3.out
            unfold OwnA at h1 ⊢
            unfold OwnN at h2
            exact h1.kept hg4 (rows_ne h1 h2 (by decide))
          · unfold OwnN
            rw [List.length_append, ivs_app]
            exact hown4
        have HB5 : Hid (Below w.heap.size w w4) := HB4.out.grown hg4 HB4.out.size (fun k hk => HG3.out.low k hk)
        clear HG3 HA3 HB4 HE1 HE2 hown4 hg4 hat4
        go_wp2_with fail
        go_roundw
        case rel => exact ⟨j + 1, _, _, rfl, rfl, by omega, by go_num, HN.out, HB5.out⟩
        case measure => simp [intOf]; omega
      · have HDT : Hid (ableB now ⟨ii, dd, cc, vv, rr⟩ = true) := by show _ = _; rw [HD.out]; exact decide_eq_true (by omega)
        have HE1 : Hid (ableA (xs.take (j + 1)) now = ableA (xs.take j) now ++ [⟨ii, dd, cc, vv, rr⟩]) := by show _ = _; rw [HB'.out, HDT.out]; rfl
        have HE2 : Hid (lateA (xs.take (j + 1)) now = lateA (xs.take j) now) := by show _ = _; rw [HL'.out, HDT.out]; rfl
        have HBX : Hid (Bx5 (w3.alloc (.cells #[.int .i64 ii, .int .i64 dd, .int .i64 cc, .int .i64 vv, .int .i64 rr] 30)) w3.heap.size ii dd cc vv rr) := Bx5.new _ _ _ _ _ _ _
        have HG3 : Hid (OwnN (w3.alloc (.cells #[.int .i64 ii, .int .i64 dd, .int .i64 cc, .int .i64 vv, .int .i64 rr] 30)) w.heap.size gv (lateA (xs.take j) now)) := HH3.out.2.later ((Below.refl _ _).alloc (Nat.le_refl _) _)
        have HA3 : Hid (OwnA (w3.alloc (.cells #[.int .i64 ii, .int .i64 dd, .int .i64 cc, .int .i64 vv, .int .i64 rr] 30)) w.heap.size av (ableA (xs.take j) now)) := HH3.out.1.later ((Below.refl _ _).alloc (Nat.le_refl _) _)
        have HB4 : Hid (Below w.heap.size w (w3.alloc (.cells #[.int .i64 ii, .int .i64 dd, .int .i64 cc, .int .i64 vv, .int .i64 rr] 30))) := HB3.out.alloc s3 _
        clear HB' HL' HD HDT HH3 HB3
        go_wp2_with (first
          | (at_builtin; refine wpList_append_own_at _ rfl _ _ 22 rfl w.heap.size 30 a0 _ 5 40 Try.underlying22 ha ha0 ha1 ha2 rfl (by decide) av _ _ rfl HA3.out ⟨w3.heap.size, 0, none⟩ 1 1 (Ap.row ⟨ii, dd, cc, vv, rr⟩) rfl rfl HBX.out.news (recA.one ⟨ii, dd, cc, vv, rr⟩) (by unfold maxLen; omega) (by omega) (by simp; omega) ?_; intro v' w4 hown4 hg4 _ hat4))
        have HN : Hid (OwnA w4 w.heap.size v' (ableA (xs.take (j + 1)) now) ∧ OwnN w4 w.heap.size gv (lateA (xs.take (j + 1)) now)) := by
          rw [HE1.out, HE2.out]
          refine ⟨?_, ?_⟩
          · unfold OwnA
            rw [List.length_append, flatA_app, flatA_one]
            exact hown4
          · have h1 := HA3.out
            have h2 := HG3.out
            unfold OwnA at h1
            unfold OwnN at h2 ⊢
            exact h2.kept hg4 (rows_ne h2 h1 (by decide))
        have HB5 : Hid (Below w.heap.size w w4) := HB4.out.grown hg4 HB4.out.size (fun k hk => HA3.out.low k hk)
        clear HG3 HA3 HB4 HE1 HE2 hown4 hg4 hat4 HBX
        go_wp2_with fail
        go_roundw
        case rel => exact ⟨j + 1, _, _, rfl, rfl, by omega, by go_num, HN.out, HB5.out⟩
        case measure => simp [intOf]; omega
    · obtain rfl : j = xs.length := by omega
      have HE : Hid (OwnA wr w.heap.size av (ableA xs now) ∧ OwnN wr w.heap.size gv (lateA xs now)) := by
        have := HH.out
        rw [List.take_length] at this
        exact this
      clear HH
      go_wp2_with fail
      go_ret2
      exact ⟨_, _, rfl, HE.out.1, HE.out.2, hbw⟩
end Go.Proofs.Ytjaaabliefcgaaa
