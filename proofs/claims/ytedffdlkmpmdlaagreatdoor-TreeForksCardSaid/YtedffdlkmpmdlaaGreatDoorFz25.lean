import Derived.Test.YtedffdlkmpmdlaaGreatDoorFz21
namespace Go.Proofs.YtedffdlkmpmdlaaGreatDoor
set_option maxRecDepth 100000
set_option linter.unusedVariables false
set_option linter.unusedSimpArgs false
theorem ok2_12 : ok2 12 = true := by decide +kernel
theorem ok2_13 : ok2 13 = true := by decide +kernel
theorem ok2_14 : ok2 14 = true := by decide +kernel
theorem ok2_15 : ok2 15 = true := by decide +kernel
end Go.Proofs.YtedffdlkmpmdlaaGreatDoor
