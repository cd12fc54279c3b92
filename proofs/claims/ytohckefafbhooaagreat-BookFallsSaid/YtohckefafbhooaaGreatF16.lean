import Derived.Test.YtohckefafbhooaaGreatF15
namespace Go.Proofs.YtohckefafbhooaaGreat
set_option maxRecDepth 100000
set_option linter.unusedVariables false
set_option linter.unusedSimpArgs false
open Go.RowKit
attribute [-go_sem] cell_at
section
variable {B : Nat} {w W W' : World} {m g gv nv cv : Nat} {R : Nat → Nat} {d : Dd} {M M' : Bok}
end
end Go.Proofs.YtohckefafbhooaaGreat
