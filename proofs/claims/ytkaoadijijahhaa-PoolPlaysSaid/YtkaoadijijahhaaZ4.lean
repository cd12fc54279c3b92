import Derived.Test.YtkaoadijijahhaaRows
import Derived.WalkKit
import Derived.Lib.Hide
import Derived.Test.YtkaoadijijahhaaChecked
import Derived.ProofKit
import Derived.OpenShut
/- Where a region lies in a function's text. Nothing here speaks of the program. -/
namespace Go.Proofs.Ytkaoadijijahhaa
set_option maxRecDepth 100000
set_option linter.unusedVariables false

/-- The region of that number. -/
def findRegion (n : Nat) : Code → Option Code
  | .region i ops d => if i = n then some (.region i ops d) else none
  | .seq a b => match findRegion n a with
    | some c => some c
    | none => findRegion n b
  | .cond _ a b => match findRegion n a with
    | some c => some c
    | none => findRegion n b
  | .rangeFunc _ _ a b => match findRegion n a with
    | some c => some c
    | none => findRegion n b
  | .block _ c => findRegion n c
  | .loop c => findRegion n c
  | .scope c => findRegion n c
  | _ => none

def isTmp (n : Nat) : Operand → Bool
  | .tmp t => t == n
  | _ => false

/-- The 'if' whose test lies in slot n. -/
def findIf (n : Nat) : Code → Option Code
  | .cond c a b => if isTmp n c then some (.cond c a b) else match findIf n a with
    | some c => some c
    | none => findIf n b
  | .seq a b => match findIf n a with
    | some c => some c
    | none => findIf n b
  | .rangeFunc _ _ a b => match findIf n a with
    | some c => some c
    | none => findIf n b
  | .block _ c => findIf n c
  | .loop c => findIf n c
  | .scope c => findIf n c
  | _ => none
end Go.Proofs.Ytkaoadijijahhaa

/- What all openers of arguments want of the program. -/
namespace Go.Proofs.Ytkaoadijijahhaa
set_option maxRecDepth 100000
set_option linter.unusedVariables false
set_option linter.unusedSimpArgs false
open Go.RowKit

theorem own : ownKnob Try.prog.godebug = none := by kernel_rfl
theorem laidOut : laidOutB Try.prog = true := by kernel_rfl
end Go.Proofs.Ytkaoadijijahhaa

/- Where a block lies in a function's text. Nothing here speaks of the program. -/
namespace Go.Proofs.Ytkaoadijijahhaa
set_option maxRecDepth 100000
set_option linter.unusedVariables false

/-- The block of that number. -/
def findBlock (n : Nat) : Code → Option Code
  | .block i c => if i = n then some (.block i c) else findBlock n c
  | .seq a b => match findBlock n a with
    | some c => some c
    | none => findBlock n b
  | .cond _ a b => match findBlock n a with
    | some c => some c
    | none => findBlock n b
  | .rangeFunc _ _ a b => match findBlock n a with
    | some c => some c
    | none => findBlock n b
  | .loop c => findBlock n c
  | .scope c => findBlock n c
  | _ => none
/-- The condition behind the region of that number. -/
def findCond (n : Nat) : Code → Option Code
  | .seq a b => match (match a, b with
      | .region i _ _, .cond t c d => if i = n then some (.cond t c d) else none
      | _, _ => none) with
    | some c => some c
    | none => match findCond n a with
      | some c => some c
      | none => findCond n b
  | .cond _ a b => match findCond n a with
    | some c => some c
    | none => findCond n b
  | .rangeFunc _ _ a b => match findCond n a with
    | some c => some c
    | none => findCond n b
  | .block _ c => findCond n c
  | .loop c => findCond n c
  | .scope c => findCond n c
  | _ => none
/-- What a block holds. -/
def inBlk : Code → Code
  | .block _ c => c
  | c => c
end Go.Proofs.Ytkaoadijijahhaa
