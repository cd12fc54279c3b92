/- Layer 3's fixed fact. -/
import Derived.Test.YtgdnmmobnfjegaaDi
namespace Go.Proofs.Ytgdnmmobnfjegaa
set_option linter.unusedVariables false
set_option linter.unusedSimpArgs false
open Go.RowKit

@[simp high] theorem rowEq_self (m x : Nat) : rowEq m x x = true := decide_eq_true rfl

theorem rowN_nil4 (x : Nat) : (rowN .u64 64 4 x = #[]) = False := by
  apply eq_false
  intro h
  have := congrArg Array.size h
  rw [rowN_size] at this
  simp at this
theorem set_0 : (rowN .u64 64 4 0).setIfInBounds 0 (.int .u64 0) = rowN .u64 64 4 0 := by
  have := set_word 0 0 0 (by omega)
  rw [putw_zero0] at this
  exact this
theorem set_2 : (rowN .u64 64 4 0).setIfInBounds 1 (.int .u64 2) = rowN .u64 64 4 36893488147419103232 := by
  have := set_word 0 1 2 (by omega)
  rw [putw_one _ _ (by omega)] at this
  exact this


end Go.Proofs.Ytgdnmmobnfjegaa
