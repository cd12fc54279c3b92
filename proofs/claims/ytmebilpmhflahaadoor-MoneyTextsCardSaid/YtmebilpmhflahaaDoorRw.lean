/- The document's answer 03 (wide): the walk of Words. -/
import Derived.Test.YtmebilpmhflahaaDoorRd
namespace Go.Proofs.YtmebilpmhflahaaDoor
set_option linter.unusedVariables false
set_option linter.unusedSimpArgs false
open Go.RowKit

theorem words_put (V d k m : Nat) (hm : m < 4) (hV : V < pw (4 * k + m)) (hd : d < 65536) :
    dgt 64 V k + d * 2 ^ (16 * m) < 2 ^ 64 ∧ putw 64 V k (dgt 64 V k + d * 2 ^ (16 * m)) = V + pw (4 * k + m) * d := by
  have e1 : pw (4 * k + m) = 2 ^ (64 * k) * 2 ^ (16 * m) := by unfold pw; rw [← Nat.pow_add]; congr 1; omega
  have hP := Nat.two_pow_pos (64 * k)
  have hM := Nat.two_pow_pos (16 * m)
  have hM2 : 2 ^ (16 * m) * 65536 ≤ 2 ^ 64 := by
    rw [show (65536 : Nat) = 2 ^ 16 from rfl, ← Nat.pow_add]
    exact Nat.pow_le_pow_right (by omega) (by omega)
  rw [e1] at hV ⊢
  have hq : V / 2 ^ (64 * k) < 2 ^ (16 * m) := by rw [Nat.div_lt_iff_lt_mul hP, Nat.mul_comm]; exact hV
  have hdg : dgt 64 V k = V / 2 ^ (64 * k) := by
    unfold dgt
    exact Nat.mod_eq_of_lt (by omega)
  have hdm : (d + 1) * 2 ^ (16 * m) ≤ 65536 * 2 ^ (16 * m) := Nat.mul_le_mul_right _ hd
  rw [Nat.add_mul] at hdm
  have h0 : V / 2 ^ (64 * (k + 1)) = 0 := by
    refine Nat.div_eq_of_lt ?_
    have e2 : 2 ^ (64 * (k + 1)) = 2 ^ (64 * k) * 2 ^ 64 := by rw [← Nat.pow_add]; congr 1
    rw [e2]
    exact Nat.lt_of_lt_of_le hV (Nat.mul_le_mul_left _ (by omega))
  constructor
  · rw [hdg]; omega
  · unfold putw
    rw [hdg, h0, Nat.mul_zero, Nat.add_zero, Nat.mul_add]
    have h1 := Nat.mod_add_div V (2 ^ (64 * k))
    have h2 : 2 ^ (64 * k) * (d * 2 ^ (16 * m)) = 2 ^ (64 * k) * 2 ^ (16 * m) * d := by ac_rfl
    omega