/- The order of lists of strings: as in Strs. -/
import Derived.Test.YtnokmlclephjgaaOrd
import Derived.Test.YtnokmlclephjgaaStrs
set_option linter.unusedVariables false
set_option linter.unusedSimpArgs false
set_option linter.unusedSectionVars false

