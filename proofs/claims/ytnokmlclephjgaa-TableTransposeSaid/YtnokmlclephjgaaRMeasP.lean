/- What a valid value is, plain: as the reference counts it. Nothing of the program is named here. -/
import Derived.Test.YtnokmlclephjgaaMeasP
set_option linter.unusedVariables false
set_option linter.unusedSimpArgs false
namespace Go.Proofs.Ytnokmlclephjgaa
def keyOk (x : ByteArray) : Bool := decide (x.size ≤ 4096) && okS x
end Go.Proofs.Ytnokmlclephjgaa
