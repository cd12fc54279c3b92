import Derived.Test.YtohckefafbhooaaGreatF29
import Derived.Test.YtohckefafbhooaaGreatF30
import Derived.Test.YtohckefafbhooaaGreatF31
import Derived.Test.YtohckefafbhooaaGreatF32
namespace Go.Proofs.YtohckefafbhooaaGreat
set_option maxRecDepth 100000
set_option linter.unusedVariables false
set_option linter.unusedSimpArgs false
open Go.RowKit
attribute [-go_sem] cell_at
section
variable {B : Nat} {w w' : World} {m : Nat} {R : Nat → Nat} {M : Bok} {sv : Value}
end
end Go.Proofs.YtohckefafbhooaaGreat
