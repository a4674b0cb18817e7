/- The program's answers and the reference's are the same. -/
import Derived.Test.YtnokmlclephjgaaAgree
import Derived.Test.YtnokmlclephjgaaStrs
import Derived.Test.YtnokmlclephjgaaRMeasP
import Derived.Test.YtnokmlclephjgaaBox
import Derived.Test.YtnokmlclephjgaaUtf3
import Derived.Deep.QuietTactic
import Derived.BigQuiet
import Derived.Test.YtnokmlclephjgaaMA
import Derived.Deep.DeepCutAuto
import Derived.Deep.RegionHeld3
import Derived.Deep.Light
import Derived.Test.YtnokmlclephjgaaCalm
import Derived.Test.YtnokmlclephjgaaCmp2
set_option linter.unusedVariables false
set_option linter.unusedSimpArgs false
namespace Go.Proofs.Ytnokmlclephjgaa
open Go.RowKit
theorem meas_some (v : V) (d m b : Int) : meas v = some (d, m, b) ↔ good v = true ∧ dep v ≤ 32 ∧ v.sz ≤ 4096 ∧ vbyt v ≤ 65536 ∧ d = dep v ∧ m = v.sz ∧ b = vbyt v := by
  unfold meas
  rw [addP_iff v 0 0 0 0 d m b (by omega) (by omega) (by omega) (by omega) (by omega)]
  constructor
  · rintro ⟨h0, h1, h2, h3, h4, h5, h6⟩; exact ⟨h0, by omega, by omega, by omega, by omega, by omega, by omega⟩
  · rintro ⟨h0, h1, h2, h3, h4, h5, h6⟩; exact ⟨h0, by omega, by omega, by omega, by omega, by omega, by omega⟩
/-- A valid value, said once. -/
def Ok (v : V) : Prop := good v = true ∧ dep v ≤ 32 ∧ v.sz ≤ 4096 ∧ vbyt v ≤ 65536
theorem valid_iff (v : V) : valid v = true ↔ Ok v := by
  unfold valid
  cases h : meas v with
  | none =>
    constructor
    · intro h; cases h
    · rintro ⟨h0, h1, h2, h3⟩
      have := (meas_some v (dep v) v.sz (vbyt v)).2 ⟨h0, h1, h2, h3, rfl, rfl, rfl⟩
      rw [h] at this
      cases this
  | some q =>
    obtain ⟨d, m, b⟩ := q
    obtain ⟨h0, h1, h2, h3, _⟩ := (meas_some v d m b).1 h
    exact ⟨fun _ => ⟨h0, h1, h2, h3⟩, fun _ => rfl⟩
end Go.Proofs.Ytnokmlclephjgaa
