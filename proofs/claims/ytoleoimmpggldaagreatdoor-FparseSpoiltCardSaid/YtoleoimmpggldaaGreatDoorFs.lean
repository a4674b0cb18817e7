import Derived.Test.YtoleoimmpggldaaGreatDoorRows
import Derived.Test.YtoleoimmpggldaaGreatDoorFx
import Derived.Test.YtoleoimmpggldaaGreatDoorQB
import Derived.LaidMore
import Derived.LaidLaws
import Derived.Lib.LaidTab
import Derived.Laws.Rows
import Derived.Laws.Strings
set_option linter.unusedVariables false
set_option linter.unusedSectionVars false
set_option linter.unusedSimpArgs false
namespace Go.Proofs.YtoleoimmpggldaaGreatDoor
open Go.RowKit
def sgV : Array Value := (signsL.map fun t => Value.string (bsF t)).toArray
theorem sgV_size : sgV.size = 32 := by decide
theorem sgV_at {j : Nat} {t : List UInt8} (h : signsL[j]? = some t) : sgV[j]? = some (.string (bsF t)) := by
 unfold sgV;simp [h]
def SgIn (w : World) : Prop := ∃ t fr, w.heap[0]? = some (.cells sgV t fr)
theorem SgIn.next {w w' : World} (h : SgIn w) (hb : Below w.heap.size w w') : SgIn w' := by
 obtain ⟨t, fr, hc⟩ := h;exact ⟨t, fr, (hb.block _ (Array.getElem?_eq_some_iff.1 hc).1).trans hc⟩
theorem index_sign {j : Nat} {t : List UInt8} (h : signsL[j]? = some t) (w : World) : (Instr.index 86 (.agg sgV) (ι (j : Int))).run Tryz.prog w = .ok (.string (bsF t)) w := by
 have hj : j < 32 := (gE.1 h).1;have hc := sgV_at h;have hg : sgV.getD j undef = .string (bsF t) := by simp [Array.getD_eq_getD_getElem?, hc]
 simp [Instr.index, asIntOf, run_underlying Tryz.underlying86, hj, part, Tryz.sizeOf9, Tryz.isAgg9, hc, hg]
