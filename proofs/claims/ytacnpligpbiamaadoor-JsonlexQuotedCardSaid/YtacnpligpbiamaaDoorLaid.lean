/- What the listed variables give: strconv.ErrRange holds an error; and one start that fits the list. -/
import Derived.Test.YtacnpligpbiamaaDoorRows
import Derived.Test.YtacnpligpbiamaaDoorParse
import Derived.LaidMore
import Derived.LaidLaws
import Derived.Stop.LaidErr
set_option linter.unusedVariables false
set_option linter.unusedSimpArgs false
namespace Go.Proofs.YtacnpligpbiamaaDoor
open Go.RowKit
theorem err_in {W : World} (h : laidMet Tryd.prog Rows.jsonlexQuotedRow.laid W) : ErrIn W := by
  have hL : laidMet Tryd.prog (_ :: _ :: _ :: _ :: _ :: []) W := h
  obtain ⟨a, s, hv, -, -, -⟩ := laid_sentinel (g := 2) (ti := 73) (tp := 131) hL.tail.tail.tail (by kernel_rfl) (by kernel_rfl) Tryd.underlying73
    (fun u hu => typeName_ptr_named (nm := "errors.errorString") (by kernel_rfl) (by kernel_rfl) (by decide) u (by refine hu.trans ?_; decide)) Tryd.underlying131 Tryd.underlying133 rfl rfl Tryd.underlying9 (by kernel_rfl) (by kernel_rfl)
  have h0 := World.var?_cell (g := 2) (by kernel_rfl) hv 0
  exact ⟨_, _, by simpa using h0⟩
end Go.Proofs.YtacnpligpbiamaaDoor
