import Derived.Test.YtohckefafbhooaaGreatF18
import Derived.Test.YtohckefafbhooaaGreatF19
import Derived.Test.YtohckefafbhooaaGreatF20
import Derived.Test.YtohckefafbhooaaGreatF21
import Derived.Test.YtohckefafbhooaaGreatF22
import Derived.Test.YtohckefafbhooaaGreatF23
import Derived.Test.YtohckefafbhooaaGreatF24
import Derived.Test.YtohckefafbhooaaGreatF25
import Derived.Test.YtohckefafbhooaaGreatF26
import Derived.Test.YtohckefafbhooaaGreatF27
import Derived.Test.YtohckefafbhooaaGreatF28
namespace Go.Proofs.YtohckefafbhooaaGreat
set_option maxRecDepth 100000
set_option linter.unusedVariables false
set_option linter.unusedSimpArgs false
open Go.RowKit
section
variable {B : Nat} {w w' : World} {m : Nat} {R : Nat → Nat} {M : Bok} {sv : Value}
end
end Go.Proofs.YtohckefafbhooaaGreat
