/- The reference's Compare, Equal, TypeName. -/
import Derived.Test.YtbojpopgjcmlbaaGreatDoorStrs
import Derived.Test.YtbojpopgjcmlbaaGreatDoorRMeasP
import Derived.Test.YtbojpopgjcmlbaaGreatDoorBox
import Derived.Test.YtbojpopgjcmlbaaGreatDoorUtf3
import Derived.Deep.QuietTactic
import Derived.BigQuiet
import Derived.Test.YtbojpopgjcmlbaaGreatDoorMeas2
import Derived.Deep.DeepCutAuto
import Derived.Deep.RegionHeld3
import Derived.Deep.Light
import Derived.Test.YtbojpopgjcmlbaaGreatDoorCalm
import Derived.Test.YtbojpopgjcmlbaaGreatDoorCmp2
import Derived.Test.YtbojpopgjcmlbaaGreatDoorROrd
set_option linter.unusedVariables false
set_option linter.unusedSimpArgs false
namespace Go.Proofs.YtbojpopgjcmlbaaGreatDoor
open Go.RowKit
/-- What Compare and Equal lean on, at two values that lie in w. -/
structure TwoR (v u : V) (cs ds : List Value) (w : World) : Prop where
  h1 : Lies w (· < w.heap.size) v cs
  h2 : Lies w (· < w.heap.size) u ds
theorem TwoR.cmp {v u : V} {cs ds : List Value} {w W : World} (h : TwoR v u cs ds w) (hb : Below w.heap.size w W) : Calls Tryz.prog 88 #[.agg cs.toArray, .agg ds.toArray] W fun e w' => e = .returned (.int .i64 (vcmp v u)) ∧ Below W.heap.size W w' := order_any v u cs ds W (below_lies hb h.h1) (below_lies hb h.h2)
end Go.Proofs.YtbojpopgjcmlbaaGreatDoor
