/- Layer 4 (money): what is right, sums, differences. -/
import Derived.Test.YtdmlopffdalhgaaUi
namespace Go.Proofs.Ytdmlopffdalhgaa
set_option linter.unusedVariables false
set_option linter.unusedSimpArgs false
open Go.RowKit

theorem aRight_any (x : Nat) (o : Bool) (ho : decide (x ≤ 4611686018427387904) = o) (w : World) :
    Calls Try.prog 34 #[.int .u64 (x : Int)] w fun e w' => e = .returned (.bool o) ∧ w' = w := by
  cases o
  · have l1 : ¬ (x : Int) ≤ 4611686018427387904 := by have := of_decide_eq_false ho; omega
    clear ho
    go_enter Try.func34, Try.ntmps34
    go_wp2
    go_ret
    exact ⟨rfl, rfl⟩
  · have l1 : (x : Int) ≤ 4611686018427387904 := by have := of_decide_eq_true ho; omega
    clear ho
    go_enter Try.func34, Try.ntmps34
    go_wp2
    go_ret
    exact ⟨rfl, rfl⟩

/-- What a sum of amounts is, and what is told beside it. -/
def adV (a b : Nat) : Nat := if a ≤ 4611686018427387904 ∧ b ≤ 4611686018427387904 ∧ a + b ≤ 4611686018427387904 then a + b else 0
def adE (a b : Nat) : Int := if a ≤ 4611686018427387904 ∧ b ≤ 4611686018427387904 then (if a + b ≤ 4611686018427387904 then 0 else 4) else 1
def sbV (a b : Nat) : Nat := if a ≤ 4611686018427387904 ∧ b ≤ 4611686018427387904 ∧ b ≤ a then a - b else 0
def sbE (a b : Nat) : Int := if a ≤ 4611686018427387904 ∧ b ≤ 4611686018427387904 then (if b ≤ a then 0 else 16) else 1

end Go.Proofs.Ytdmlopffdalhgaa
