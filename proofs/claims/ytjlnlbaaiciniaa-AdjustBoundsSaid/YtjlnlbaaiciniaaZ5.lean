import Derived.Test.YtjlnlbaaiciniaaRows
import Derived.WalkKit
import Derived.Lib.Hide
/- Where a region lies in a function's text. Nothing here speaks of the program. -/
namespace Go.Proofs.Ytjlnlbaaiciniaa
set_option linter.unusedVariables false

/-- The region of that number. -/
def findRegion (n : Nat) : Code → Option Code
  | .region i ops d => if i = n then some (.region i ops d) else none
  | .seq a b => match findRegion n a with
    | some c => some c
    | none => findRegion n b
  | .cond _ a b => match findRegion n a with
    | some c => some c
    | none => findRegion n b
  | .rangeFunc _ _ a b => match findRegion n a with
    | some c => some c
    | none => findRegion n b
  | .block _ c => findRegion n c
  | .loop c => findRegion n c
  | .scope c => findRegion n c
  | _ => none

def isTmp (n : Nat) : Operand → Bool
  | .tmp t => t == n
  | _ => false

/-- The 'if' whose test lies in slot n. -/
def findIf (n : Nat) : Code → Option Code
  | .cond c a b => if isTmp n c then some (.cond c a b) else match findIf n a with
    | some c => some c
    | none => findIf n b
  | .seq a b => match findIf n a with
    | some c => some c
    | none => findIf n b
  | .rangeFunc _ _ a b => match findIf n a with
    | some c => some c
    | none => findIf n b
  | .block _ c => findIf n c
  | .loop c => findIf n c
  | .scope c => findIf n c
  | _ => none
end Go.Proofs.Ytjlnlbaaiciniaa
