/- What the listed variables give: the two tables read as the program text lays them. -/
import Derived.Test.YtacnpligpbiamaaDoorRows
import Derived.Test.YtacnpligpbiamaaDoorG7
import Derived.LaidMore
import Derived.LaidLaws
import Derived.Stop.LaidErr
set_option linter.unusedVariables false
set_option linter.unusedSimpArgs false
namespace Go.Proofs.YtacnpligpbiamaaDoor
open Go.RowKit
set_option maxRecDepth 100000 in
theorem tab_in {W : World} (h : laidMet Tryd.prog Rows.jsonwriteTextRow.laid W) : TabS W := by
  have h2 : laidMet Tryd.prog (_ :: ("math/bits.deBruijn64tab", Lib.tabData .u8 (Lib.deBruijn64tab.map Int.ofNat)) :: ("internal/strconv.uint64pow10", Lib.tabData .u64 Lib.pow10Tab) :: []) W := h
  have hp := Lib.tabIs_of_head (g := 3) (t := 141) (e := 110) (n := 20) (by kernel_rfl) (by kernel_rfl) Tryd.underlying141 Tryd.underlying110 (by kernel_rfl) (by kernel_rfl) h2.tail.tail
  have hz := Lib.tabIs_of_head (g := 5) (t := 147) (e := 5) (n := 64) (by kernel_rfl) (by kernel_rfl) Tryd.underlying147 Tryd.underlying5 (by kernel_rfl) (by kernel_rfl) h2.tail
  refine ⟨hp, fun j hj => ?_⟩
  have h3 := hz.cell (g := 5) (by kernel_rfl) j (by simpa using hj)
  rw [h3]
  congr 2
  simp [List.getD, List.getElem?_eq_getElem hj]
end Go.Proofs.YtacnpligpbiamaaDoor
