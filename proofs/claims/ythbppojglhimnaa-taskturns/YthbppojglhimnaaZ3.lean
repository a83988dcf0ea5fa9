/- Walks of package live: May, of one task. -/
import Derived.Test.YthbppojglhimnaaZ2
import Derived.Deep.Cut
namespace Go.Proofs.Ythbppojglhimnaa
open Go.RowKit

theorem now_wrap {now : Int} (h : wiB now 0 549755813888 = true) : IntKind.i64.wrap (now + 48) = now + 48 := by
  have := of_decide_eq_true h
  rw [IntKind.wrap_i64]
  omega
theorem one17 (ec : Int) (et : Int) (ex : Int) (em : Int) (ek : Int) (ee : Int) (o : Bool) (jn : Int) (r : Int) (u : Int) (b : Bool) (c : Int) (d : Int) (x : Int) (p : Int) (a : Int) (n : Int) : ∀ v ∈ ([.int .i64 ec, .int .i64 et, .int .i64 ex, .int .i64 em, .int .i64 ek, .int .i64 ee, .bool o, .int .i64 jn, .int .i64 r, .int .i64 u, .bool b, .int .i64 c, .int .i64 d, .int .i64 x, .int .i64 p, .int .i64 a, .int .i64 n] : List Value), v.oneCell' = true := fun v hv => by
  simp only [List.mem_cons, List.not_mem_nil, or_false] at hv
  rcases hv with rfl | rfl | rfl | rfl | rfl | rfl | rfl | rfl | rfl | rfl | rfl | rfl | rfl | rfl | rfl | rfl | rfl <;> rfl
theorem one22 (id : Int) (ec : Int) (et : Int) (ex : Int) (em : Int) (ek : Int) (ee : Int) (p : Int) (nx : Int) (a : Int) (n : Int) (o : Bool) (jn : Int) (r : Int) (u : Int) (b : Bool) (c : Int) (d : Int) (x : Int) (hn : Int) (hb : Int) (kp : Bool) : ∀ v ∈ ([.int .i64 id, .int .i64 ec, .int .i64 et, .int .i64 ex, .int .i64 em, .int .i64 ek, .int .i64 ee, .int .i64 p, .int .i64 nx, .int .i64 a, .int .i64 n, .bool o, .int .i64 jn, .int .i64 r, .int .i64 u, .bool b, .int .i64 c, .int .i64 d, .int .i64 x, .int .i64 hn, .int .u64 hb, .bool kp] : List Value), v.oneCell' = true := fun v hv => by
  simp only [List.mem_cons, List.not_mem_nil, or_false] at hv
  rcases hv with rfl | rfl | rfl | rfl | rfl | rfl | rfl | rfl | rfl | rfl | rfl | rfl | rfl | rfl | rfl | rfl | rfl | rfl | rfl | rfl | rfl | rfl <;> rfl
theorem one8 (o : Bool) (jn : Int) (r : Int) (u : Int) (b : Bool) (c : Int) (d : Int) (x : Int) : ∀ v ∈ ([.bool o, .int .i64 jn, .int .i64 r, .int .i64 u, .bool b, .int .i64 c, .int .i64 d, .int .i64 x] : List Value), v.oneCell' = true := fun v hv => by
  simp only [List.mem_cons, List.not_mem_nil, or_false] at hv
  rcases hv with rfl | rfl | rfl | rfl | rfl | rfl | rfl | rfl <;> rfl
theorem one6 (ec : Int) (et : Int) (ex : Int) (em : Int) (ek : Int) (ee : Int) : ∀ v ∈ ([.int .i64 ec, .int .i64 et, .int .i64 ex, .int .i64 em, .int .i64 ek, .int .i64 ee] : List Value), v.oneCell' = true := fun v hv => by
  simp only [List.mem_cons, List.not_mem_nil, or_false] at hv
  rcases hv with rfl | rfl | rfl | rfl | rfl | rfl <;> rfl
set_option maxHeartbeats 1000000 in
set_option maxRecDepth 100000 in
theorem lmay1_any (ec et ex em ek ee : Int) (o : Bool) (jn r u : Int) (b : Bool) (c d x p a n : Int) (now : Int) (q : Nat) (w : World) (hB : Bk w q [.int .i64 ec, .int .i64 et, .int .i64 ex, .int .i64 em, .int .i64 ek, .int .i64 ee, .bool o, .int .i64 jn, .int .i64 r, .int .i64 u, .bool b, .int .i64 c, .int .i64 d, .int .i64 x, .int .i64 p, .int .i64 a, .int .i64 n]) :
    Calls Try.prog 12 #[.slice (some ⟨q, 0, none⟩) 1 1, .int .i64 now] w fun e w' => e = .returned (.bool (lmB ⟨ec, et, ex, em, ek, ee⟩ ⟨o, jn, r, u, b, c, d, x⟩ p a n now)) ∧ Below w.heap.size w w' := by
  have HB : Hid (Bk w q [.int .i64 ec, .int .i64 et, .int .i64 ex, .int .i64 em, .int .i64 ek, .int .i64 ee, .bool o, .int .i64 jn, .int .i64 r, .int .i64 u, .bool b, .int .i64 c, .int .i64 d, .int .i64 x, .int .i64 p, .int .i64 a, .int .i64 n]) := hB
  clear hB
  obtain ⟨q1, h1⟩ : ∃ z, wiB now 0 549755813888 = z := ⟨_, rfl⟩
  obtain ⟨q2, h2⟩ : ∃ z, mvB ⟨ec, et, ex, em, ek, ee⟩ ⟨o, jn, r, u, b, c, d, x⟩ p a n now = z := ⟨_, rfl⟩
  have HR : Hid (lmB ⟨ec, et, ex, em, ek, ee⟩ ⟨o, jn, r, u, b, c, d, x⟩ p a n now = (q1 && q2)) := by show _ = _; unfold lmB; rw [h1, h2]
  have H1 : Hid (wiB now 0 549755813888 = q1) := h1
  have H2 : Hid (mvB ⟨ec, et, ex, em, ek, ee⟩ ⟨o, jn, r, u, b, c, d, x⟩ p a n now = q2) := h2
  clear h1 h2
  go_enter Try.func12, Try.ntmps12
  go_wp2_with fail
  refine (lwi_any now 0 549755813888 _).mono ?_
  rintro e w2 ⟨rfl, hw2⟩
  obtain rfl := hw2.symm
  rw [H1.out]
  cases q1
  · go_wp2; go_ret; exact ⟨ret_b HR.out.symm, Below.refl _ _⟩
  have HN : Hid (IntKind.i64.wrap (now + 48) = now + 48) := now_wrap H1.out
  go_wp2_with fail
  go_loopw [17] (fun i wr => ∃ (k : Nat), k ≤ 1 ∧ i = .int .i64 k ∧ (k = 0 ∨ q2 = true) ∧ Below w.heap.size w wr) (fun i _ => (1 - intOf i).toNat)
  case atStart => exact ⟨0, by omega, by go_num, .inl rfl, Below.refl _ _⟩
  case round =>
    obtain ⟨k, hk, rfl, hq, hbw⟩ := hrel
    rcases (show k = 0 ∨ k = 1 by omega) with rfl | rfl
    · clear hq
      have HBW : Hid (Below w.heap.size w wr) := hbw
      clear hbw
      have hlt := (HB.out.later HBW.out).lt
      go_upto_region 6 with (first | (refine load_bk rfl 39 _ rfl _ 0 [.int .i64 ec, .int .i64 et, .int .i64 ex, .int .i64 em, .int .i64 ek, .int .i64 ee, .bool o, .int .i64 jn, .int .i64 r, .int .i64 u, .bool b, .int .i64 c, .int .i64 d, .int .i64 x, .int .i64 p, .int .i64 a, .int .i64 n] [.int .i64 ec, .int .i64 et, .int .i64 ex, .int .i64 em, .int .i64 ek, .int .i64 ee, .bool o, .int .i64 jn, .int .i64 r, .int .i64 u, .bool b, .int .i64 c, .int .i64 d, .int .i64 x, .int .i64 p, .int .i64 a, .int .i64 n] rfl (HB.out.later HBW.out) rfl _ Try.underlying39 rfl (by kernel_rfl) ?_) | (refine store_bk rfl 39 _ _ rfl _ 0 _ [.int .i64 ec, .int .i64 et, .int .i64 ex, .int .i64 em, .int .i64 ek, .int .i64 ee, .bool o, .int .i64 jn, .int .i64 r, .int .i64 u, .bool b, .int .i64 c, .int .i64 d, .int .i64 x, .int .i64 p, .int .i64 a, .int .i64 n] [.int .i64 ec, .int .i64 et, .int .i64 ex, .int .i64 em, .int .i64 ek, .int .i64 ee, .bool o, .int .i64 jn, .int .i64 r, .int .i64 u, .bool b, .int .i64 c, .int .i64 d, .int .i64 x, .int .i64 p, .int .i64 a, .int .i64 n] rfl rfl 17 rfl (Bk.new _ _ _) (by decide) rfl (by kernel_rfl) (one17 ec et ex em ek ee o jn r u b c d x p a n) ?_; intro W hk1 hk2 hk3 hk4))
      have HX : Hid (Bk W wr.heap.size [.int .i64 ec, .int .i64 et, .int .i64 ex, .int .i64 em, .int .i64 ek, .int .i64 ee, .bool o, .int .i64 jn, .int .i64 r, .int .i64 u, .bool b, .int .i64 c, .int .i64 d, .int .i64 x, .int .i64 p, .int .i64 a, .int .i64 n] ∧ Below w.heap.size w W) := ⟨hk1, hk3 _ _ HBW.out.size (HBW.out.alloc HBW.out.size _)⟩
      clear hk1 hk2 hk3 hk4
      obtain ⟨g0, g1, g2, g3, g4, g5, g6, g7, g8, g9, g10, g11, g12, g13, g14, g15, g16⟩ := HX.out.1.c17
      go_wp2_with fail
      refine (mayAt_any ec et ex em ek ee o jn r u b c d x p a n now _ HN.out).mono ?_
      rintro e w4 ⟨rfl, hb4⟩
      rw [H2.out]
      have HB4 : Hid (Below w.heap.size w w4) := HX.out.2.trans (hb4.mono HX.out.2.size)
      clear hb4
      cases q2
      · go_wp2; go_ret; exact ⟨ret_b HR.out.symm, HB4.out⟩
      · go_wp2_with fail
        go_roundw
        case rel => exact ⟨1, by omega, by go_num, .inr (by trivial), HB4.out⟩
        case measure => simp [intOf]
    · obtain rfl : q2 = true := by
        rcases hq with h | h
        · omega
        · exact h
      go_wp2; go_ret; exact ⟨ret_b HR.out.symm, hbw⟩
end Go.Proofs.Ythbppojglhimnaa
