/- Walks of Fits of package units, and of the document's own Sum and Fits. -/
import Derived.Test.YteibaiflljcghaaDoorU1
namespace Go.Proofs.YteibaiflljcghaaDoor
open Go.RowKit

set_option maxHeartbeats 1000000 in
set_option maxRecDepth 100000 in
theorem fits_any (ks : List Int) (v : Value) (w : World) (h : Nums w v ks) (hL : Lim w) :
    Calls Tryd.prog 27 #[v] w fun e w' => e = .returned (.bool (fitB6 ks)) ∧ w' = w := by
  have HS := sum_any ks v w h hL
  obtain ⟨a, cap, rfl, h1, h2, h3⟩ := h
  obtain ⟨l0, l1, l2⟩ := hL
  clear h3
  cases hb : sumB ks
  · have H : Hid (sumB ks = false) := hb
    have HF : Hid (fitB6 ks = false) := by show _ = _; unfold fitB6; rw [hb]; rfl
    clear hb
    go_enter Tryd.func27, Tryd.ntmps27
    go_wp2_with fail
    refine HS.mono ?_
    rintro e w1 ⟨rfl, rfl⟩
    rw [H.out]
    go_wp2
    go_ret
    exact ⟨ret_b HF.out.symm, rfl⟩
  · have H : Hid (sumB ks = true) := hb
    have HF : Hid (fitB6 ks = decide (sumV ks ≤ 983040)) := by show _ = _; unfold fitB6; rw [hb]; rfl
    clear hb
    go_enter Tryd.func27, Tryd.ntmps27
    go_wp2_with fail
    refine HS.mono ?_
    rintro e w1 ⟨rfl, rfl⟩
    rw [H.out]
    go_wp2
    go_ret
    exact ⟨ret_b HF.out.symm, rfl⟩
end Go.Proofs.YteibaiflljcghaaDoor
