import Derived.Test.YtedffdlkmpmdlaaGreatDoorFz21
namespace Go.Proofs.YtedffdlkmpmdlaaGreatDoor
set_option maxRecDepth 100000
set_option linter.unusedVariables false
set_option linter.unusedSimpArgs false
theorem ok2_0 : ok2 0 = true := by decide +kernel
theorem ok2_1 : ok2 1 = true := by decide +kernel
theorem ok2_2 : ok2 2 = true := by decide +kernel
theorem ok2_3 : ok2 3 = true := by decide +kernel
end Go.Proofs.YtedffdlkmpmdlaaGreatDoor
