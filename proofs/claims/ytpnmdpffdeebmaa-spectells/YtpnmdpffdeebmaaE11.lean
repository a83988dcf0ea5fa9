/- Walks of the document's own answers of chapter 5: Get. -/
import Derived.Test.YtpnmdpffdeebmaaE9
import Derived.Test.YtpnmdpffdeebmaaE8
namespace Go.Proofs.Ytpnmdpffdeebmaa
open Go.RowKit

set_option maxHeartbeats 1000000 in
set_option maxRecDepth 100000 in
theorem refGet_any (ks : List Int) (v : Value) (w : World) (h : Bys w v ks) :
    Calls Try.prog 12 #[v] w fun r w' => r = .returned (.tuple #[spV (knS (gotS ks)), .bool (maySp (gotS ks))]) ∧ Below w.heap.size w w' := by
  by_cases hl : ks.length = 6
  · obtain ⟨k0, k1, k2, k3, k4, k5, rfl⟩ := len6 hl
    have HG : Hid (gotS [k0, k1, k2, k3, k4, k5] = ⟨k0, k1, k2, k3, k4, k5⟩) := rfl
    obtain ⟨a, cap, rfl, h1, h2, h3, h4, h5⟩ := h
    obtain ⟨b, o, rfl, h6⟩ := h5 (by simp)
    have hlen : ([k0, k1, k2, k3, k4, k5] : List Int).length = 6 := rfl
    rw [hlen] at h1 ⊢
    have hbl : b < w.heap.size := World.block_lt_of_cell? _ _ (h6 0 (by simp))
    have hA := (Below.refl w.heap.size w).alloc (Nat.le_refl _) (.cells #[.int .i64 0, .int .i64 0, .int .i64 0, .int .i64 0, .int .i64 0, .int .i64 0] 23)
    have d0 : (w.alloc (.cells #[.int .i64 0, .int .i64 0, .int .i64 0, .int .i64 0, .int .i64 0, .int .i64 0] 23)).cell? ⟨b, o, none⟩ = some (.int .u8 k0) := cell_later hA (h6 0 (by simp))
    have l0 : 0 ≤ k0 := (h4 0 (by simp)).1
    have u0 : k0 ≤ 255 := (h4 0 (by simp)).2
    have q0 : IntKind.i64.wrap k0 = k0 := by rw [IntKind.wrap_i64]; omega
    have d1 : (w.alloc (.cells #[.int .i64 0, .int .i64 0, .int .i64 0, .int .i64 0, .int .i64 0, .int .i64 0] 23)).cell? ⟨b, o + 1, none⟩ = some (.int .u8 k1) := cell_later hA (h6 1 (by simp))
    have l1 : 0 ≤ k1 := (h4 1 (by simp)).1
    have u1 : k1 ≤ 255 := (h4 1 (by simp)).2
    have q1 : IntKind.i64.wrap k1 = k1 := by rw [IntKind.wrap_i64]; omega
    have d2 : (w.alloc (.cells #[.int .i64 0, .int .i64 0, .int .i64 0, .int .i64 0, .int .i64 0, .int .i64 0] 23)).cell? ⟨b, o + 2, none⟩ = some (.int .u8 k2) := cell_later hA (h6 2 (by simp))
    have l2 : 0 ≤ k2 := (h4 2 (by simp)).1
    have u2 : k2 ≤ 255 := (h4 2 (by simp)).2
    have q2 : IntKind.i64.wrap k2 = k2 := by rw [IntKind.wrap_i64]; omega
    have d3 : (w.alloc (.cells #[.int .i64 0, .int .i64 0, .int .i64 0, .int .i64 0, .int .i64 0, .int .i64 0] 23)).cell? ⟨b, o + 3, none⟩ = some (.int .u8 k3) := cell_later hA (h6 3 (by simp))
    have l3 : 0 ≤ k3 := (h4 3 (by simp)).1
    have u3 : k3 ≤ 255 := (h4 3 (by simp)).2
    have q3 : IntKind.i64.wrap k3 = k3 := by rw [IntKind.wrap_i64]; omega
    have d4 : (w.alloc (.cells #[.int .i64 0, .int .i64 0, .int .i64 0, .int .i64 0, .int .i64 0, .int .i64 0] 23)).cell? ⟨b, o + 4, none⟩ = some (.int .u8 k4) := cell_later hA (h6 4 (by simp))
    have l4 : 0 ≤ k4 := (h4 4 (by simp)).1
    have u4 : k4 ≤ 255 := (h4 4 (by simp)).2
    have q4 : IntKind.i64.wrap k4 = k4 := by rw [IntKind.wrap_i64]; omega
    have d5 : (w.alloc (.cells #[.int .i64 0, .int .i64 0, .int .i64 0, .int .i64 0, .int .i64 0, .int .i64 0] 23)).cell? ⟨b, o + 5, none⟩ = some (.int .u8 k5) := cell_later hA (h6 5 (by simp))
    have l5 : 0 ≤ k5 := (h4 5 (by simp)).1
    have u5 : k5 ≤ 255 := (h4 5 (by simp)).2
    have q5 : IntKind.i64.wrap k5 = k5 := by rw [IntKind.wrap_i64]; omega
    have HR : Hid (Six (w.alloc (.cells #[.int .i64 0, .int .i64 0, .int .i64 0, .int .i64 0, .int .i64 0, .int .i64 0] 23)) w.heap.size (Sp.at ⟨0, 0, 0, 0, 0, 0⟩) ∧ Below w.heap.size w (w.alloc (.cells #[.int .i64 0, .int .i64 0, .int .i64 0, .int .i64 0, .int .i64 0, .int .i64 0] 23))) := ⟨Six.new w spZ, hA⟩
    have hs : w.heap.size < (w.alloc (.cells #[.int .i64 0, .int .i64 0, .int .i64 0, .int .i64 0, .int .i64 0, .int .i64 0] 23)).heap.size := by simp
    clear h3 h4 h5 h6 hl hlen hA
    go_enter Try.func12, Try.ntmps12
    go_wp2_with fail
    generalize w.alloc (.cells #[.int .i64 0, .int .i64 0, .int .i64 0, .int .i64 0, .int .i64 0, .int .i64 0] 23) = W at *
    have KP : Hid (∀ W' : World, Below W.heap.size W W' → W'.cell? ⟨b, o, none⟩ = some (.int .u8 k0) ∧ W'.cell? ⟨b, o + 1, none⟩ = some (.int .u8 k1) ∧ W'.cell? ⟨b, o + 2, none⟩ = some (.int .u8 k2) ∧ W'.cell? ⟨b, o + 3, none⟩ = some (.int .u8 k3) ∧ W'.cell? ⟨b, o + 4, none⟩ = some (.int .u8 k4) ∧ W'.cell? ⟨b, o + 5, none⟩ = some (.int .u8 k5)) := fun W' hb => ⟨cell_later hb d0, cell_later hb d1, cell_later hb d2, cell_later hb d3, cell_later hb d4, cell_later hb d5⟩
    go_region_held3 (fun w' => w'.cell? ⟨b, o, none⟩ = some (.int .u8 k0) ∧ w'.cell? ⟨b, o + 1, none⟩ = some (.int .u8 k1) ∧ w'.cell? ⟨b, o + 2, none⟩ = some (.int .u8 k2) ∧ w'.cell? ⟨b, o + 3, none⟩ = some (.int .u8 k3) ∧ w'.cell? ⟨b, o + 4, none⟩ = some (.int .u8 k4) ∧ w'.cell? ⟨b, o + 5, none⟩ = some (.int .u8 k5)) (first | exact ⟨d0, d1, d2, d3, d4, d5⟩ | exact KP.out _ ((Below.refl _ _).drew.alloc (Nat.le_refl _) _)) (first | fail)
    all_goals
      go_wp2_with fail
      refine (refSp_any k0 k1 k2 k3 k4 k5 _).mono ?_
      rintro r w1 ⟨rfl, hb1⟩
      have hN := (show Six (W.drew.alloc (.cells #[.int .i64 k0, .int .i64 k1, .int .i64 k2, .int .i64 k3, .int .i64 k4, .int .i64 k5] 23)) W.heap.size (Sp.at ⟨k0, k1, k2, k3, k4, k5⟩) from Six.new W.drew ⟨k0, k1, k2, k3, k4, k5⟩).later hb1
      have hA := (Below.refl W.heap.size W).drew.alloc (Nat.le_refl _) (.cells #[.int .i64 k0, .int .i64 k1, .int .i64 k2, .int .i64 k3, .int .i64 k4, .int .i64 k5] 23)
      have hZ := (HR.out.1.later hA).later hb1
      have hb : Below w.heap.size w w1 := (HR.out.2.trans (hA.mono (by omega))).trans (hb1.mono (by show w.heap.size ≤ (W.alloc _).heap.size; simp; omega))
      have s1 := hN.lt
      clear hb1 hA HR KP d0 d1 d2 d3 d4 d5 q0 q1 q2 q3 q4 q5 l0 l1 l2 l3 l4 l5 u0 u1 u2 u3 u4 u5
      obtain ⟨z0, z1, z2, z3, z4, z5, y0, y1, y2, y3, y4, y5⟩ := hZ.sp
      obtain ⟨n0, n1, n2, n3, n4, n5, m0, m1, m2, m3, m4, m5⟩ := hN.sp
      clear m0 m1 m2 m3 m4 m5 hZ hN
      cases hm : maySp ⟨k0, k1, k2, k3, k4, k5⟩
      · have H : Hid (maySp ⟨k0, k1, k2, k3, k4, k5⟩ = false) := hm
        have H0 : Hid (knS ⟨k0, k1, k2, k3, k4, k5⟩ = spZ) := knS_no hm
        clear hm
        go_wp2_with fail
        refine bodyPost_ret (v := .tuple #[spV spZ, .bool false]) ?_ rfl ⟨by rw [HG.out, H.out, H0.out], below6 hb (by simp) 0 0 0 0 0 0⟩
        simp [results, Try.results12, go_sem, spV, spZ, z0, z1, z2, z3, z4, z5]
      · have H : Hid (maySp ⟨k0, k1, k2, k3, k4, k5⟩ = true) := hm
        have H0 : Hid (knS ⟨k0, k1, k2, k3, k4, k5⟩ = ⟨k0, k1, k2, k3, k4, k5⟩) := knS_yes hm
        clear hm
        go_wp2_with fail
        refine bodyPost_ret (v := .tuple #[spV ⟨k0, k1, k2, k3, k4, k5⟩, .bool true]) ?_ rfl ⟨by rw [HG.out, H.out, H0.out], below6 hb (by simp) k0 k1 k2 k3 k4 k5⟩
        simp [results, Try.results12, go_sem, spV, z0, z1, z2, z3, z4, z5]
  · have HG : Hid (gotS ks = spZ) := by show _ = _; unfold gotS; rw [if_neg hl]
    have HZ : Hid (maySp spZ = false ∧ knS spZ = spZ) := ⟨spZ_no, knS_no spZ_no⟩
    obtain ⟨a, cap, rfl, h1, h2, _⟩ := h
    go_enter Try.func12, Try.ntmps12
    go_wp2_with fail
    refine bodyPost_ret (v := .tuple #[spV spZ, .bool false]) ?_ rfl ⟨by rw [HG.out, HZ.out.1, HZ.out.2], ?_⟩
    · simp [results, Try.results12, go_sem, spV, spZ]
    · exact (Below.refl _ _).alloc (by simp) _
end Go.Proofs.Ytpnmdpffdeebmaa
