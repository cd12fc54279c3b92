import Derived.Test.YtohckefafbhooaaGreatF1
import Derived.Test.YtohckefafbhooaaGreatF47
import Derived.Test.YtohckefafbhooaaGreatF15
import Derived.Test.YtohckefafbhooaaGreatF43
namespace Go.Proofs.YtohckefafbhooaaGreat
set_option maxRecDepth 100000
set_option linter.unusedVariables false
set_option linter.unusedSimpArgs false
open Go.RowKit
attribute [-go_sem] cell_at
end Go.Proofs.YtohckefafbhooaaGreat
