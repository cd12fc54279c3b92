import Derived.Test.YtedffdlkmpmdlaaGreatDoorFz18
import Derived.Test.YtedffdlkmpmdlaaGreatDoorFz1
import Derived.Test.YtedffdlkmpmdlaaGreatDoorFz7
import Derived.Deep.Cut
namespace Go.Proofs.YtedffdlkmpmdlaaGreatDoor
set_option maxRecDepth 100000
set_option linter.unusedVariables false
set_option linter.unusedSimpArgs false
open Go.RowKit
def workM (L : List Bk) (i : Nat) : Nat := ((anc L i).map fun k => wkN (btT (bkT L k).bits)).sum
theorem workM_step {L : List Bk} (h : WFt L) {i j : Nat} (hi : i < L.length) (hj : (bkT L i).ahead = (j : Int)) : workM L i = workM L j + wkN (btT (bkT L i).bits) := by
 rw [workM,(anc_step h hi hj).2,workM]; simp; omega
theorem wkN_W {t : Nat} : wkN t < W256 := by
 unfold wkN
 have := W256_pos
 split
 ·omega
 ·rename_i h
  exact Nat.div_lt_self this (by omega)
def bestN (L : List Bk) : Nat → Nat
 |0 => 0
 |n + 1 => if workM L (bestN L n) < workM L n then n else bestN L n
def bestM (L : List Bk) : Nat := bestN L L.length
theorem bestN_le (L : List Bk) : ∀ n,bestN L n ≤ n - 1
 |0 => Nat.le_refl _
 |n + 1 => by
  rw [bestN]
  have := bestN_le L n
  split <;> omega
def Sums (w : World) (cur : Array Value) (L : List Bk) (k : Nat) : Prop := ∀ m,m < k → ∃ a c,cur[m]? = some (.slice a (lg (workM L m)) c) ∧ Ns w a c (workM L m)
end Go.Proofs.YtedffdlkmpmdlaaGreatDoor
