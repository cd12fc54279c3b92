import Derived.Test.YtedffdlkmpmdlaaGreatDoorFz21
namespace Go.Proofs.YtedffdlkmpmdlaaGreatDoor
set_option maxRecDepth 100000
set_option linter.unusedVariables false
set_option linter.unusedSimpArgs false
theorem ok2_4 : ok2 4 = true := by decide +kernel
theorem ok2_5 : ok2 5 = true := by decide +kernel
theorem ok2_6 : ok2 6 = true := by decide +kernel
theorem ok2_7 : ok2 7 = true := by decide +kernel
end Go.Proofs.YtedffdlkmpmdlaaGreatDoor
