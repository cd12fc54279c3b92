import Derived.Test.YtedffdlkmpmdlaaGreatDoorFz21
namespace Go.Proofs.YtedffdlkmpmdlaaGreatDoor
set_option maxRecDepth 100000
set_option linter.unusedVariables false
set_option linter.unusedSimpArgs false
theorem ok2_8 : ok2 8 = true := by decide +kernel
theorem ok2_9 : ok2 9 = true := by decide +kernel
theorem ok2_10 : ok2 10 = true := by decide +kernel
theorem ok2_11 : ok2 11 = true := by decide +kernel
end Go.Proofs.YtedffdlkmpmdlaaGreatDoor
