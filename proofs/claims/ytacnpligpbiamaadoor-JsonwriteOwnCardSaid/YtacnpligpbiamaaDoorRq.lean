/- The reference's Quote. -/
import Derived.Test.YtacnpligpbiamaaDoorQt
set_option linter.unusedVariables false
set_option linter.unusedSimpArgs false
namespace Go.Proofs.YtacnpligpbiamaaDoor
open Go.RowKit
theorem app_below {base : Nat} {w w' : World} {v v' : Value} (h : App w v w' v') (hv : v.ownBlock = none) : Below w.heap.size w w' := h.below (Nat.le_refl _) (fun g hg => by rw [hv] at hg; cases hg)
set_option maxHeartbeats 1000000 in
theorem rQuote_any (s : ByteArray) (hs : s.size ≤ 1048576) (w : World) : Calls Tryd.prog 10 #[.string s] w fun e w' => e = .returned (.string ⟨(qt s.data.toList).toArray⟩) ∧ Below w.heap.size w w' := by
  have HQ := Lib.hid (fun (W : World) => quote_any s hs W.heap.size 0 0 none [] W (World.ownsRow_nil _ _ _ _) (by omega) (Nat.le_refl _))
  simp only [List.nil_append] at HQ
  go_enter Tryd.func10, Tryd.ntmps10
  go_wp2_with (go_at_call 26; refine (HQ.out _).mono ?_; rintro e w1 ⟨A, n, c, rfl, hown, happ⟩; have hcv := conv_own hown)
  go_ret
  exact ⟨rfl, app_below (base := 0) happ rfl⟩
end Go.Proofs.YtacnpligpbiamaaDoor
