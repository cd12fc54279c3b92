import Derived.Test.YthoaalnjmklclaaRows
import Derived.WalkKit
import Derived.Lib.Hide
import Derived.WalkSpells
import Derived.WalkLawsBesides
/- Where a region lies in a function's text. Nothing here speaks of the program. -/
namespace Go.Proofs.Ythoaalnjmklclaa
set_option linter.unusedVariables false

/-- The region of that number. -/
def findRegion (n : Nat) : Code → Option Code
  | .region i ops d => if i = n then some (.region i ops d) else none
  | .seq a b => match findRegion n a with
    | some c => some c
    | none => findRegion n b
  | .cond _ a b => match findRegion n a with
    | some c => some c
    | none => findRegion n b
  | .rangeFunc _ _ a b => match findRegion n a with
    | some c => some c
    | none => findRegion n b
  | .block _ c => findRegion n c
  | .loop c => findRegion n c
  | .scope c => findRegion n c
  | _ => none

def isTmp (n : Nat) : Operand → Bool
  | .tmp t => t == n
  | _ => false

/-- The 'if' whose test lies in slot n. -/
def findIf (n : Nat) : Code → Option Code
  | .cond c a b => if isTmp n c then some (.cond c a b) else match findIf n a with
    | some c => some c
    | none => findIf n b
  | .seq a b => match findIf n a with
    | some c => some c
    | none => findIf n b
  | .rangeFunc _ _ a b => match findIf n a with
    | some c => some c
    | none => findIf n b
  | .block _ c => findIf n c
  | .loop c => findIf n c
  | .scope c => findIf n c
  | _ => none
end Go.Proofs.Ythoaalnjmklclaa

/- Stage 1, octet: the calls that only compute. -/
namespace Go.Proofs.Ythoaalnjmklclaa
set_option linter.unusedVariables false
set_option linter.unusedSimpArgs false
open Go.RowKit

def szB (n : Int) : Bool := (((n == 1) || (n == 2)) || (n == 4)) || (n == 8)

set_option maxHeartbeats 400000 in
theorem isSize_any (n : Int) (w : World) : Calls Try.prog 80 #[.int .i64 n] w fun e w' => e = .returned (.bool (szB n)) ∧ w = w' := by
  by_cases h1 : n = 1
  · subst h1; go_enter Try.func80, Try.ntmps80
    go_wp2
    go_ret
    exact ⟨rfl, rfl⟩
  have b1 : (n == 1) = false := by simpa using h1
  by_cases h2 : n = 2
  · subst h2; go_enter Try.func80, Try.ntmps80
    go_wp2
    go_ret
    exact ⟨rfl, rfl⟩
  have b2 : (n == 2) = false := by simpa using h2
  by_cases h4 : n = 4
  · subst h4; go_enter Try.func80, Try.ntmps80
    go_wp2
    go_ret
    exact ⟨rfl, rfl⟩
  have b4 : (n == 4) = false := by simpa using h4
  go_enter Try.func80, Try.ntmps80
  go_wp2
  go_ret
  exact ⟨by simp [szB, b1, b2, b4], rfl⟩
end Go.Proofs.Ythoaalnjmklclaa
