/- The sanity check of the statements on jsonlex. -/
import Derived.Test.YtacnpligpbiamaaDoorJlN
set_option linter.unusedVariables false
set_option linter.unusedSimpArgs false
namespace Go.Proofs.YtacnpligpbiamaaDoor
open Go.RowKit
theorem lex_example : lexP [32, 45, 49, 50, 44] 0 = okX 3 1 4 0 (-12) ⟨#[]⟩ := by rfl
set_option maxHeartbeats 2000000 in
set_option maxRecDepth 100000 in
theorem awake_any (w : World) (hE : ErrIn w) : Calls Tryd.prog 9 #[] w fun e w' => e = .returned (.bool true) ∧ Below w.heap.size w w' := by
  have h := lex_open (lex_as (next_any ⟨#[32, 45, 49, 50, 44]⟩ 0 (by decide) w hE) (x := lexP [32, 45, 49, 50, 44] 0) lex_example.symm)
  simp only [okX] at h
  have HX := Lib.hid h
  clear h
  go_enter Tryd.func9, Tryd.ntmps9
  go_wp2_with (go_at_call 11; refine HX.out.mono ?_; rintro e w' ⟨rfl, hb'⟩)
  go_ret
  exact ⟨rfl, hb'.alloc hb'.size _⟩
end Go.Proofs.YtacnpligpbiamaaDoor
