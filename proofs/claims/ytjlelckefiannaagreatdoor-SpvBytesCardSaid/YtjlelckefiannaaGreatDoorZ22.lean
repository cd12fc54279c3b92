import Derived.Test.YtjlelckefiannaaGreatDoorZ14
namespace Go.Proofs.YtjlelckefiannaaGreatDoor
set_option maxRecDepth 100000
set_option linter.unusedVariables false
set_option linter.unusedSimpArgs false
open Go.RowKit
@[go_sem ↓ high] theorem aPf (p:Value):Instr.loadAt 24 p=iq 24 p:=rfl
end Go.Proofs.YtjlelckefiannaaGreatDoor
