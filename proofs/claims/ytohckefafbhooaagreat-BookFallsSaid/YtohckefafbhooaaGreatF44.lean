import Derived.Test.YtohckefafbhooaaGreatF35
namespace Go.Proofs.YtohckefafbhooaaGreat
set_option maxRecDepth 100000
set_option linter.unusedVariables false
set_option linter.unusedSimpArgs false
open Go.RowKit
attribute [-go_sem] cell_at
def buildRr (parts : Array (Nat × Value)) : Sem Value := Instr.build 42 parts
@[go_sem ↓ high] theorem build_Rr (p : Array (Nat × Value)) : Instr.build 42 p = buildRr p := rfl
end Go.Proofs.YtohckefafbhooaaGreat
