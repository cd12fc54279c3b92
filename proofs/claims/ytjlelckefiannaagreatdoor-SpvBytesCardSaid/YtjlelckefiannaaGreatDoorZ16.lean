import Derived.Test.YtjlelckefiannaaGreatDoorZ15
namespace Go.Proofs.YtjlelckefiannaaGreatDoor
set_option maxRecDepth 100000
set_option linter.unusedVariables false
set_option linter.unusedSimpArgs false
open Go.RowKit
attribute [local go_sem high] ac4 afy ac0 ac3 ac5 ac2 ac1 adr ads
end Go.Proofs.YtjlelckefiannaaGreatDoor
