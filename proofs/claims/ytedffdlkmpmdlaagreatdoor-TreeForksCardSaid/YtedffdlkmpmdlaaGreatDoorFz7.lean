import Derived.Test.YtedffdlkmpmdlaaGreatDoorFz6
import Derived.Test.YtedffdlkmpmdlaaGreatDoorFz4
namespace Go.Proofs.YtedffdlkmpmdlaaGreatDoor
set_option maxRecDepth 100000
set_option linter.unusedVariables false
set_option linter.unusedSimpArgs false
open Go.RowKit
@[simp high] theorem rowEq_self (m x : Nat) : rowEq m x x = true := decide_eq_true rfl
theorem rowN_nil4 (x : Nat) : (rowN .u64 64 4 x = #[]) = False := by
 apply eq_false
 intro h
 have := congrArg Array.size h
 rw [rowN_size] at this
 simp at this
end Go.Proofs.YtedffdlkmpmdlaaGreatDoor
namespace Go.Proofs.YtedffdlkmpmdlaaGreatDoor
set_option maxRecDepth 100000
set_option linter.unusedVariables false
set_option linter.unusedSimpArgs false
open Go.RowKit
end Go.Proofs.YtedffdlkmpmdlaaGreatDoor
namespace Go.Proofs.YtedffdlkmpmdlaaGreatDoor
set_option maxRecDepth 100000
set_option linter.unusedVariables false
set_option linter.unusedSimpArgs false
open Go.RowKit
theorem word_w {x : Nat} (h : x < 18446744073709551616) : x < W256 := Nat.lt_of_lt_of_le (show x < 2 ^ 64 by omega) (Nat.pow_le_pow_right (by omega) (by omega))
theorem W256_two : W256 = 2 ^ 256 := rfl
def wkN (t : Nat) : Nat := if t = 0 then W256 - 1 else W256 / (t + 1)
def scN (t up by' most : Nat) : Nat := if most < t * up / by' then most else if t * up / by' = 0 then 1 else t * up / by'
end Go.Proofs.YtedffdlkmpmdlaaGreatDoor
namespace Go.Proofs.YtedffdlkmpmdlaaGreatDoor
set_option maxRecDepth 100000
set_option linter.unusedVariables false
set_option linter.unusedSimpArgs false
open Go.RowKit
def btE (b : Nat) : Nat := b / 16777216
def btM (b : Nat) : Nat := b % 8388608
def btS (b : Nat) : Nat := b / 8388608 % 2
def btT (b : Nat) : Nat := tgt (btE b) (btM b)
def btP (b : Nat) : Prop := ¬ (btS b = 1 ∧ 0 < btM b) ∧ 0 < btT b ∧ btT b < W256
instance (b : Nat) : Decidable (btP b) := by unfold btP; infer_instance
end Go.Proofs.YtedffdlkmpmdlaaGreatDoor
namespace Go.Proofs.YtedffdlkmpmdlaaGreatDoor
set_option maxRecDepth 100000
set_option linter.unusedVariables false
set_option linter.unusedSimpArgs false
open Go.RowKit
def enB (t : Nat) : Nat := enM t + enE t * 16777216
theorem nby_32 {t : Nat} (h : t < W256) : nby t ≤ 32 := by
 rw [nby_le,by2_two]
 exact h
theorem enE_33 {t : Nat} (h : t < W256) : enE t ≤ 33 := by
 have := nby_32 h
 unfold enE
 split <;> omega
end Go.Proofs.YtedffdlkmpmdlaaGreatDoor
