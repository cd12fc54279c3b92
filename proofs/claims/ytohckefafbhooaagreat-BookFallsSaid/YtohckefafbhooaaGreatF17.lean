import Derived.Test.YtohckefafbhooaaGreatF16
import Derived.Test.YtohckefafbhooaaGreatF8
import Derived.Test.YtohckefafbhooaaGreatF1
namespace Go.Proofs.YtohckefafbhooaaGreat
set_option maxRecDepth 100000
set_option linter.unusedVariables false
set_option linter.unusedSimpArgs false
open Go.RowKit
attribute [-go_sem] cell_at
def buildRV1 (parts : Array (Nat × Value)) : Sem Value := Instr.buildSlice 45 1 parts
@[go_sem ↓ high] theorem build_RV1 (p : Array (Nat × Value)) : Instr.buildSlice 45 1 p = buildRV1 p := rfl
section
variable {B : Nat} {w w' : World} {m : Nat} {R : Nat → Nat} {M : Bok} {sv : Value}
end
section
variable {B : Nat} {w w' : World} {m : Nat} {R : Nat → Nat} {M : Bok} {sv : Value}
end
end Go.Proofs.YtohckefafbhooaaGreat
namespace Go.Proofs.YtohckefafbhooaaGreat
set_option maxRecDepth 100000
set_option linter.unusedVariables false
set_option linter.unusedSimpArgs false
open Go.RowKit
attribute [-go_sem] cell_at
section
variable {B : Nat} {w w' : World} {m : Nat} {R : Nat → Nat} {M : Bok} {sv : Value}
end
end Go.Proofs.YtohckefafbhooaaGreat
