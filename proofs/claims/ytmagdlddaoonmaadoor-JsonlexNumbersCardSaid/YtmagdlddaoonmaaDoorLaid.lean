/- What the listed variables give: strconv.ErrRange holds an error; and one start that fits the list. -/
import Derived.Test.YtmagdlddaoonmaaDoorRows
import Derived.Test.YtmagdlddaoonmaaDoorParse
import Derived.LaidMore
import Derived.LaidLaws
import Derived.Stop.LaidErr
set_option linter.unusedVariables false
set_option linter.unusedSimpArgs false
namespace Go.Proofs.YtmagdlddaoonmaaDoor
open Go.RowKit
theorem err_in {W : World} (h : laidMet Tryd.prog Rows.jsonlexNextRow.laid W) : ErrIn W := by
  have hL : laidMet Tryd.prog (_ :: _ :: _ :: _ :: _ :: []) W := h
  obtain ⟨a, s, hv, -, -, -⟩ := laid_sentinel (g := 1) (ti := 52) (tp := 96) hL.tail.tail.tail (by kernel_rfl) (by kernel_rfl) Tryd.underlying52
    (fun u hu => typeName_ptr_named (nm := "errors.errorString") (by kernel_rfl) (by kernel_rfl) (by decide) u (by refine hu.trans ?_; decide)) Tryd.underlying96 Tryd.underlying98 rfl rfl Tryd.underlying9 (by kernel_rfl) (by kernel_rfl)
  have h0 := World.var?_cell (g := 1) (by kernel_rfl) hv 0
  exact ⟨_, _, by simpa using h0⟩
end Go.Proofs.YtmagdlddaoonmaaDoor
