/- Nested arrays, long arrays and long strings: how far they are valid; plain. And a slice of bytes as a string. -/
import Derived.Test.YtgdnkankleoaoaaAgree2
import Derived.Test.YtgdnkankleoaoaaMake2
set_option linter.unusedVariables false
set_option linter.unusedSimpArgs false
namespace Go.Proofs.Ytgdnkankleoaoaa
open Go.RowKit
/-- 1 in so many arrays. -/
def nest : Nat → V
  | 0 => .mk 3 1 ⟨#[]⟩ [] []
  | d + 1 => .mk 5 0 ⟨#[]⟩ [] [nest d]
/-- An array of so many nulls. -/
def nulls (n : Nat) : V := arrV (List.replicate n vnull)
end Go.Proofs.Ytgdnkankleoaoaa
