import Derived.Test.YtedffdlkmpmdlaaGreatDoorFz13
import Derived.Test.YtedffdlkmpmdlaaGreatDoorFz9
import Derived.Lib.AppendZeros
namespace Go.Proofs.YtedffdlkmpmdlaaGreatDoor
set_option maxRecDepth 100000
set_option linter.unusedVariables false
set_option linter.unusedSimpArgs false
open Go.RowKit
abbrev Pt := Option Addr × Nat × List UInt8
def pt (ps : List Pt) (k : Nat) : Pt := ps.getD k (none,0,[])
structure Pts (w : World) (a : Option Addr) (ps : List Pt) : Prop where
 cell : ∀ k,k < ps.length → ∃ b off,a = some ⟨b,off,none⟩ ∧ w.cell? ⟨b,off + k,none⟩ = some (.slice (pt ps k).1 (pt ps k).2.2.length (pt ps k).2.1)
 each : ∀ k,k < ps.length → Bs w (pt ps k).1 (pt ps k).2.1 (pt ps k).2.2
end Go.Proofs.YtedffdlkmpmdlaaGreatDoor
