/- Layer 3's laws: 'is', of what it should be. -/
import Derived.Test.YtmebilpmhflahaaDoorRw
import Derived.Test.YtmebilpmhflahaaDoorRe
import Derived.Test.YtmebilpmhflahaaDoorRc
import Derived.Test.YtmebilpmhflahaaDoorLv3
namespace Go.Proofs.YtmebilpmhflahaaDoor
set_option linter.unusedVariables false
set_option linter.unusedSimpArgs false
open Go.RowKit