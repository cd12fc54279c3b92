/- Stage 1, octet: the calls that only compute. -/
import Derived.Test.YtkeepojcdofibaaRows
import Derived.WalkKit
import Derived.WalkSpells
import Derived.WalkLawsBesides
namespace Go.Proofs.Ytkeepojcdofibaa
set_option linter.unusedVariables false
set_option linter.unusedSimpArgs false
open Go.RowKit

def szB (n : Int) : Bool := (((n == 1) || (n == 2)) || (n == 4)) || (n == 8)

set_option maxHeartbeats 400000 in
theorem isSize_any (n : Int) (w : World) : Calls Try.prog 28 #[.int .i64 n] w fun e w' => e = .returned (.bool (szB n)) ∧ w = w' := by
  by_cases h1 : n = 1
  · subst h1; go_enter Try.func28, Try.ntmps28
    go_wp2
    go_ret
    exact ⟨rfl, rfl⟩
  have b1 : (n == 1) = false := by simpa using h1
  by_cases h2 : n = 2
  · subst h2; go_enter Try.func28, Try.ntmps28
    go_wp2
    go_ret
    exact ⟨rfl, rfl⟩
  have b2 : (n == 2) = false := by simpa using h2
  by_cases h4 : n = 4
  · subst h4; go_enter Try.func28, Try.ntmps28
    go_wp2
    go_ret
    exact ⟨rfl, rfl⟩
  have b4 : (n == 4) = false := by simpa using h4
  go_enter Try.func28, Try.ntmps28
  go_wp2
  go_ret
  exact ⟨by simp [szB, b1, b2, b4], rfl⟩
end Go.Proofs.Ytkeepojcdofibaa
