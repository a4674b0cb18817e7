/- The reference's Compare, Equal, TypeName. -/
import Derived.Test.YtkohnkofnobakaaGreatDoorRef1
import Derived.Test.YtkohnkofnobakaaGreatDoorROrd
set_option linter.unusedVariables false
set_option linter.unusedSimpArgs false
namespace Go.Proofs.YtkohnkofnobakaaGreatDoor
open Go.RowKit
/-- What Compare and Equal lean on, at two values that lie in w. -/
structure TwoR (v u : V) (cs ds : List Value) (w : World) : Prop where
  h1 : Lies w (· < w.heap.size) v cs
  h2 : Lies w (· < w.heap.size) u ds
theorem TwoR.val1 {v u : V} {cs ds : List Value} {w W : World} (h : TwoR v u cs ds w) (hb : Below w.heap.size w W) : Calls Tryz.prog 54 #[.agg cs.toArray] W fun e w' => e = .returned (.bool (validR v)) ∧ Below W.heap.size W w' := rvalid_any v cs W (below_lies hb h.h1)
theorem TwoR.val2 {v u : V} {cs ds : List Value} {w W : World} (h : TwoR v u cs ds w) (hb : Below w.heap.size w W) : Calls Tryz.prog 54 #[.agg ds.toArray] W fun e w' => e = .returned (.bool (validR u)) ∧ Below W.heap.size W w' := rvalid_any u ds W (below_lies hb h.h2)
theorem TwoR.cmp {v u : V} {cs ds : List Value} {w W : World} (h : TwoR v u cs ds w) (hb : Below w.heap.size w W) : Calls Tryz.prog 91 #[.agg cs.toArray, .agg ds.toArray] W fun e w' => e = .returned (.int .i64 (vcmp v u)) ∧ Below W.heap.size W w' := order_any v u cs ds W (below_lies hb h.h1) (below_lies hb h.h2)
end Go.Proofs.YtkohnkofnobakaaGreatDoor
