/- Where a block lies in a function's text. Nothing here speaks of the program. -/
import Derived.Test.YtmebilpmhflahaaPiece
namespace Go.Proofs.Ytmebilpmhflahaa
set_option linter.unusedVariables false

/-- The block of that number. -/
def findBlock (n : Nat) : Code → Option Code
  | .block i c => if i = n then some (.block i c) else findBlock n c
  | .seq a b => match findBlock n a with
    | some c => some c
    | none => findBlock n b
  | .cond _ a b => match findBlock n a with
    | some c => some c
    | none => findBlock n b
  | .rangeFunc _ _ a b => match findBlock n a with
    | some c => some c
    | none => findBlock n b
  | .loop c => findBlock n c
  | .scope c => findBlock n c
  | _ => none
end Go.Proofs.Ytmebilpmhflahaa
