import Derived.Test.YtohckefafbhooaaGreatN18
import Derived.Test.YtohckefafbhooaaGreatN19
import Derived.Test.YtohckefafbhooaaGreatN20
import Derived.Test.YtohckefafbhooaaGreatN21
import Derived.Test.YtohckefafbhooaaGreatN22
import Derived.Test.YtohckefafbhooaaGreatN23
import Derived.Test.YtohckefafbhooaaGreatN24
import Derived.Test.YtohckefafbhooaaGreatN25
import Derived.Test.YtohckefafbhooaaGreatN26
import Derived.Test.YtohckefafbhooaaGreatN27
import Derived.Test.YtohckefafbhooaaGreatN28
namespace Go.Proofs.YtohckefafbhooaaGreat
set_option maxRecDepth 100000
set_option linter.unusedVariables false
set_option linter.unusedSimpArgs false
open Go.RowKit
section
variable {B : Nat} {w w' : World} {m : Nat} {R : Nat → Nat} {M : Bok} {sv : Value}
end
end Go.Proofs.YtohckefafbhooaaGreat
