/- Stage 1, octet: the calls that only compute. -/
import Derived.Test.YtigjoepoaahidaaRows
import Derived.WalkKit
import Derived.WalkSpells
import Derived.WalkLawsBesides
namespace Go.Proofs.Ytigjoepoaahidaa
set_option linter.unusedVariables false
set_option linter.unusedSimpArgs false
open Go.RowKit

def szB (n : Int) : Bool := (((n == 1) || (n == 2)) || (n == 4)) || (n == 8)


end Go.Proofs.Ytigjoepoaahidaa
