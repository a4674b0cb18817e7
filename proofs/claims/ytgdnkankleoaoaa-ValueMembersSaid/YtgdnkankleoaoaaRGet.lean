/- The reference's Get. -/
import Derived.Test.YtgdnkankleoaoaaGet
import Derived.Test.YtgdnkankleoaoaaStrs
import Derived.Test.YtgdnkankleoaoaaG2
import Derived.Test.YtgdnkankleoaoaaG1
import Derived.Test.YtgdnkankleoaoaaUtf3
import Derived.Deep.QuietTactic
import Derived.BigQuiet
import Derived.Test.YtgdnkankleoaoaaMeas2
import Derived.Deep.DeepCutAuto
import Derived.Deep.RegionHeld3
import Derived.Deep.Light
import Derived.Test.YtgdnkankleoaoaaCmp2
set_option linter.unusedVariables false
set_option linter.unusedSimpArgs false
namespace Go.Proofs.Ytgdnkankleoaoaa
open Go.RowKit Go.Sort
/-- No key among the first i is the one that is sought. -/
def Miss (ks : List ByteArray) (key : ByteArray) (i : Nat) : Prop := ∀ j, j < i → ks[j]? ≠ some key
theorem Miss.start (ks : List ByteArray) (key : ByteArray) : Miss ks key 0 := fun j h => absurd h (Nat.not_lt_zero _)
theorem Miss.step {ks : List ByteArray} {key : ByteArray} {i : Nat} (h : Miss ks key i) {x : ByteArray} (hx : ks[i]? = some x) (hn : ¬ scmp x key = 0) : Miss ks key (i + 1) := by
  intro j hj
  rcases Nat.lt_or_ge j i with h1 | h1
  · exact h j h1
  · have : j = i := by omega
    subst this
    rw [hx]
    intro e
    injection e with e
    exact hn ((scmp_zero _ _).2 e)
theorem Miss.all {ks : List ByteArray} {key : ByteArray} {i : Nat} (h : Miss ks key i) (hi : ks.length ≤ i) : idxOf ks key = none := by
  refine idxOf_miss fun j hj => ?_
  exact h j (by have := (List.getElem?_eq_some_iff.1 hj).1; omega) hj
end Go.Proofs.Ytgdnkankleoaoaa
