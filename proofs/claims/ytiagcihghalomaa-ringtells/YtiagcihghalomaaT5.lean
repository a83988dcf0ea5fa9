/- Walks of the document's own Far. -/
import Derived.Test.YtiagcihghalomaaT4
namespace Go.Proofs.Ytiagcihghalomaa
open Go.RowKit

set_option maxHeartbeats 1000000 in
set_option maxRecDepth 100000 in
theorem refFar_no (N B m k : Int) (w : World) (h : mayB m k = false) :
    Calls Try.prog 23 #[.agg #[.int .i64 N, .int .u64 B], .int .i64 m, .int .i64 k] w fun e w' => e = .returned (.int .i64 k) ∧ Below w.heap.size w w' := by
  have H1 : Hid (mayB m k = false) := h
  clear h
  go_enter Try.func23, Try.ntmps23
  go_wp2_with fail
  refine (refMay_any _ _ _).mono ?_
  rintro e w0 ⟨rfl, rfl⟩
  rw [H1.out]
  go_wp2
  go_ret
  exact ⟨rfl, (Below.refl _ _).alloc (by simp) _⟩

theorem gd_pad (zs : List Bool) (c b : Nat) : gd (zs ++ List.replicate c true) b = gd zs b := by
  unfold gd
  rw [List.getD, List.getD]
  rcases Nat.lt_or_ge b zs.length with h | h
  · rw [List.getElem?_append_left h]
  · rw [List.getElem?_append_right h, List.getElem?_eq_none h]
    rw [List.getElem?_replicate]; split <;> rfl
theorem gd_bad0 (zs : List Bool) {c b : Nat} (h : b < c) : gd (List.replicate c false ++ zs) b = false := by
  simp [gd, List.getD, List.getElem?_append_left, h]
theorem gd_bad1 (zs : List Bool) (c b : Nat) : gd (List.replicate c false ++ zs) (c + b) = gd zs b := by
  simp [gd, List.getD, List.getElem?_append_right]

theorem cnt_split (f : Nat → Bool) (a n k : Nat) : cnt f a (n + k) = cnt f a n + cnt f (a + n) k := by
  induction k with
  | zero => rfl
  | succ k ih => rw [← Nat.add_assoc, cnt, ih, cnt, ← Nat.add_assoc]; omega
theorem cnt_none {f : Nat → Bool} {a n : Nat} (h : ∀ i, i < n → f (a + i) = false) : cnt f a n = 0 := by
  induction n with
  | zero => rfl
  | succ n ih => rw [cnt, ih (fun i hi => h i (by omega)), h n (by omega)]; rfl

def rowLen : Value → Nat | .slice _ n _ => n | _ => 0

/-- Of outcomes, with good ones ahead and bad ones behind, how many of the last k are good. -/
theorem far_cnt (zs : List Bool) (c n k : Nat) (hk : k ≤ zs.length + c) (hn : n ≤ k) :
    lastG (List.replicate c true ++ zs.reverse ++ List.replicate n false) k (List.replicate c true ++ zs.reverse ++ List.replicate n false).length = cnt (gd zs) 0 (k - n) := by
  rw [lastG_eq]
  rw [show min k (List.replicate c true ++ zs.reverse ++ List.replicate n false).length = n + (k - n) by simp; omega]
  rw [show (List.replicate c true ++ zs.reverse ++ List.replicate n false).reverse = List.replicate n false ++ (zs ++ List.replicate c true) by simp]
  rw [cnt_split, cnt_none (fun i hi => by rw [Nat.zero_add]; exact gd_bad0 _ hi), Nat.zero_add]
  refine cnt_congr fun i hi => ?_
  rw [Nat.zero_add, Nat.zero_add, gd_bad1, gd_pad]

set_option maxHeartbeats 2000000 in
set_option maxRecDepth 100000 in
theorem refFar_in (N B m : Int) (k : Nat) (w : World) (b0 : 0 ≤ B) (m0 : 1 ≤ m) (mk : m ≤ k) (k6 : (k : Int) ≤ 6) :
    Calls Try.prog 23 #[.agg #[.int .i64 N, .int .u64 B], .int .i64 m, .int .i64 k] w fun e w' => ∃ n : Nat, e = .returned (.int .i64 n) ∧ IsFar (ringOf N B) m k n ∧ Below w.heap.size w w' := by
  have H1 : Hid (mayB m k = true) := mayB_mk m0 mk k6
  have hl := ringOf_len N B
  go_enter Try.func23, Try.ntmps23
  go_wp2_with fail
  refine (refMay_any _ _ _).mono ?_
  rintro e w0 ⟨rfl, rfl⟩
  rw [H1.out]
  go_wp2_with fail
  refine (refList_any N B _ b0).mono ?_
  rintro e w1 ⟨v, rfl, hown, hb1⟩
  generalize hz : ringOf N B = zs at *
  have HZ : Hid (ringOf N B = zs) := hz
  clear hz
  simp only [World.size_alloc] at hown
  have hb : Below w.heap.size w w1 := ((Below.refl _ _).alloc (by simp) _).trans (hb1.mono (by simp))
  have s1 : w.heap.size + 1 ≤ w1.heap.size := by have := hb1.size; simpa using this
  replace hown := own_base hown (show w.heap.size ≤ w.heap.size + 1 by omega)
  clear hb1
  go_wp2_with fail
  go_loopw [8] (fun u wr => ∃ (c : Nat), c + zs.length ≤ max k zs.length ∧ wr.ownsRow w.heap.size 4 1 u (c + zs.length) (bvs (List.replicate c true ++ zs.reverse)) ∧ Below w.heap.size w wr) (fun u _ => k - rowLen u)
  case atStart => exact ⟨0, by omega, by simpa using hown, hb⟩
  case round =>
    obtain ⟨c, hc, hownc, hbc⟩ := hrel
    have hrow := Row.own hownc (by simp)
    have hcap := own_cap hownc
    have s3 := hbc.size
    have hrow' := hrow
    obtain ⟨a, cap, rfl, r1, r2, _⟩ := hrow'
    have hlen : (List.replicate c true ++ zs.reverse).length = c + zs.length := by simp
    rw [hlen] at r1 hrow hownc hcap ⊢
    unfold maxLen at r2
    by_cases hlt : ((c + zs.length : Nat) : Int) < k
    · have hbt : Below wr.heap.size wr (wr.alloc (.cells #[.bool true] 4)) := (Below.refl _ _).alloc (Nat.le_refl _) _
      have hrow1 := hrow.later hbt
      have hownl := World.ownsRow_lit (base := w.heap.size) (e := 4) (size := 1) wr #[.bool true] 1 s3 (by unfold maxLen; omega) rfl
      clear hown hb
      go_wp2_with (first
        | (at_builtin; refine append_row rfl _ _ rfl w.heap.size _ _ 1 [true] _ rfl hownl rfl hrow1 hcap (by simp; omega) (by simp; omega) ?_))
      intro v' w4 hown' hb4
      have hown4 : w4.ownsRow w.heap.size 4 1 v' (c + 1 + zs.length) (bvs (List.replicate (c + 1) true ++ zs.reverse)) := by
        rw [List.replicate_succ, List.cons_append]
        rw [show c + 1 + zs.length = 1 + (c + zs.length) by omega]
        simpa [Nat.add_assoc] using hown'
      have hb5 : Below w.heap.size w w4 := (hbc.alloc s3 _).trans hb4
      have hrow4 := Row.own hown4 (by simp)
      obtain ⟨a4, cap4, rfl, _, _, _⟩ := hrow4
      clear hown' hownl hrow1 hrow hcap
      go_wp2_with fail
      go_roundw
      case rel => exact ⟨c + 1, by omega, hown4, hb5⟩
      case measure => simp [rowLen]; omega
    · clear hown hb hrow hcap
      go_wp2_with fail
      go_loopw [8, 9] (fun u i wx => ∃ (n : Nat), n ≤ k ∧ i = .int .i64 n ∧ Hid (∀ t, t < n → m ≤ (cnt (gd zs) 0 (k - t) : Int)) ∧ wx.ownsRow w.heap.size 4 1 u (c + zs.length + n) (bvs (List.replicate c true ++ zs.reverse ++ List.replicate n false)) ∧ Below w.heap.size w wx) (fun _ i _ => ((k : Int) - intOf i).toNat)
      case atStart => exact ⟨0, by omega, rfl, fun t ht => by omega, by simpa using hownc, hbc⟩
      case round =>
        obtain ⟨n, hn, rfl, HI, hownn, hbn⟩ := hrel
        have hrow := Row.own hownn (by simp; omega)
        have s4 := hbn.size
        clear hownc hbc hlen
        have hrow' := hrow
        obtain ⟨a', cap', rfl, p1, p2, _⟩ := hrow'
        have hlen : (List.replicate c true ++ zs.reverse ++ List.replicate n false).length = c + zs.length + n := by simp; omega
        rw [hlen] at p1 hrow hownn ⊢
        unfold maxLen at p2
        by_cases hlt : (n : Int) < k
        · have HC : Hid (lastG (List.replicate c true ++ zs.reverse ++ List.replicate n false) k (List.replicate c true ++ zs.reverse ++ List.replicate n false).length = cnt (gd zs) 0 (k - n)) := far_cnt zs c n k (by omega) hn
          have hcl := cnt_le (gd zs) 0 (k - n)
          go_wp2_with fail
          refine (refCount3_any _ _ _ _ hrow (by rw [hlen]; omega) (by omega) (by omega)).mono ?_
          rintro e w5 ⟨rfl, rfl⟩
          rw [HC.out]
          by_cases hcm : (cnt (gd zs) 0 (k - n) : Int) < m
          · have HF : Hid (IsFar zs m k n) := ⟨hn, hcm, HI.out⟩
            go_wp2_with fail
            go_ret
            exact ⟨n, rfl, by rw [HZ.out]; exact HF.out, hbn⟩
          · have hown1 := hownn.alloc (.cells #[.bool false] 4)
            have hlit : Row (w5.alloc (.cells #[.bool false] 4)) (.slice (some ⟨w5.heap.size, 0, none⟩) 1 1) [false] := Row.own (base := 0) (World.ownsRow_lit w5 #[.bool false] 1 (by omega) (by unfold maxLen; omega) rfl) rfl
            have hc1 : ∀ q, (Value.slice (some ⟨w5.heap.size, 0, none⟩) 1 1) = .slice none 0 q → q = 0 := fun q h => by simp at h
            go_wp2_with (first
              | (at_builtin; refine append_row rfl _ _ rfl w.heap.size _ _ (c + zs.length + n) _ [false] rfl hown1 rfl hlit hc1 (by simp; omega) (by simp; omega) ?_))
            intro v' w6 hown' hb6
            have hown6 : w6.ownsRow w.heap.size 4 1 v' (c + zs.length + (n + 1)) (bvs (List.replicate c true ++ zs.reverse ++ List.replicate (n + 1) false)) := by
              rw [List.replicate_succ', ← List.append_assoc, ← Nat.add_assoc]; simpa using hown'
            have hb7 : Below w.heap.size w w6 := (hbn.alloc s4 _).trans hb6
            clear hown' hown1 hlit hc1 hrow
            go_wp2_with fail
            go_roundw
            case rel => exact ⟨n + 1, by omega, by go_num, fun t ht => (by rcases Nat.lt_or_ge t n with h | h; exact HI.out t h; obtain rfl : t = n := (by omega); omega), hown6, hb7⟩
            case measure => simp [intOf]; omega
        · obtain rfl : n = k := by omega
          have HF : Hid (IsFar zs m n n) := ⟨Nat.le_refl _, by rw [Nat.sub_self]; simp [cnt]; omega, HI.out⟩
          go_wp2_with fail
          go_ret
          exact ⟨n, rfl, by rw [HZ.out]; exact HF.out, hbn⟩
end Go.Proofs.Ytiagcihghalomaa
