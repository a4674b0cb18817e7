/- What the listed variables give: strconv.ErrRange holds an error, and the table of signs lies as the program text lays it. -/
import Derived.Test.YtgclmnlnbjjgkaaDoorRows
import Derived.Test.YtgclmnlnbjjgkaaDoorParse
import Derived.Test.YtgclmnlnbjjgkaaDoorFs
import Derived.LaidMore
import Derived.LaidLaws
import Derived.Stop.LaidErr
set_option linter.unusedVariables false
set_option linter.unusedSimpArgs false
namespace Go.Proofs.YtgclmnlnbjjgkaaDoor
open Go.RowKit
def laid10 : List (String × DataW Unit) := [("math/bits.deBruijn32tab", Rows.laid_math_bits_deBruijn32tab), ("math/bits.deBruijn64tab", Rows.laid_math_bits_deBruijn64tab), ("internal/strconv.uint64pow10", Rows.laid_internal_strconv_uint64pow10), ("strconv.ErrRange", Rows.laid_strconv_ErrRange), ("strconv.ErrSyntax", Rows.laid_strconv_ErrSyntax), ("ndjq/flex.signs", Rows.laid_ndjq_flex_signs)]
theorem err_in10 {W : World} (h : laidMet Tryd.prog laid10 W) : ErrIn W := by
  have hL : laidMet Tryd.prog (_ :: _ :: _ :: _ :: _ :: _ :: []) W := h
  obtain ⟨a, s, hv, -, -, -⟩ := laid_sentinel (g := 3) (ti := 45) (tp := 80) hL.tail.tail.tail (by kernel_rfl) (by kernel_rfl) Tryd.underlying45
    (fun u hu => typeName_ptr_named (nm := "errors.errorString") (by kernel_rfl) (by kernel_rfl) (by decide) u (by refine hu.trans ?_; decide)) Tryd.underlying80 Tryd.underlying82 rfl rfl Tryd.underlying9 (by kernel_rfl) (by kernel_rfl)
  have h0 := World.var?_cell (g := 3) (by kernel_rfl) hv 0
  exact ⟨_, _, by simpa using h0⟩
theorem sg_in10 {W : World} (h : laidMet Tryd.prog laid10 W) : SgIn W := by
  have hL : laidMet Tryd.prog (_ :: _ :: _ :: _ :: _ :: _ :: []) W := h
  exact sg_of_head hL.tail.tail.tail.tail.tail
end Go.Proofs.YtgclmnlnbjjgkaaDoor
