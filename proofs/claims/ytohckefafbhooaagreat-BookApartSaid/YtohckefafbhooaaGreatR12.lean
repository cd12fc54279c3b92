import Derived.Test.YtohckefafbhooaaGreatR8
import Derived.Test.YtohckefafbhooaaGreatR6
import Derived.Sort.LotA
import Derived.Sort.LotD1
import Derived.Sort.WalkA14
import Derived.Laws.Bits64
import Derived.Laws.Bits64b
import Derived.Deep.Cut
import Derived.Deep.CutBlock
import Derived.Test.YtohckefafbhooaaGreatR2
import Derived.Sort.LotB
import Derived.Sort.LotD3
import Derived.Sort.AssemblyPlain
namespace Go.Proofs.YtohckefafbhooaaGreat
set_option maxRecDepth 100000
set_option linter.unusedVariables false
set_option linter.unusedSimpArgs false
open Go.RowKit
def asc (l : List Nat) : Prop := ∀ i j,i < j → j < l.length → l.getD i 0 ≤ l.getD j 0
end Go.Proofs.YtohckefafbhooaaGreat
