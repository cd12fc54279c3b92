import Derived.Test.YtedffdlkmpmdlaaGreatDoorFz18
import Derived.Test.YtedffdlkmpmdlaaGreatDoorFz1
import Derived.Test.YtedffdlkmpmdlaaGreatDoorFz6
import Derived.Test.YtedffdlkmpmdlaaGreatDoorFz8
namespace Go.Proofs.YtedffdlkmpmdlaaGreatDoor
set_option maxRecDepth 100000
set_option linter.unusedVariables false
set_option linter.unusedSimpArgs false
open Go.RowKit
def fromM (L : List Bk) (every : Nat) (i : Nat) : Nat := (lineM L i).getD ((lineM L i).length - every) 0
def bitsM (L : List Bk) (every span limit i : Nat) : Nat :=
 if (lineM L i).length % every = 0 then enB (scN (btT (bkT L i).bits) (tkN span (((bkT L i).time : Int) - ((bkT L (fromM L every i)).time : Int))) span (btT limit)) else (bkT L i).bits
end Go.Proofs.YtedffdlkmpmdlaaGreatDoor
