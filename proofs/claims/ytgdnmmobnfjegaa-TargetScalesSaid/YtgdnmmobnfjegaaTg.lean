/- Numbers of layer 6 (target): exponents, mantissas, and what bits leave out. -/
import Derived.Test.YtgdnmmobnfjegaaWk
namespace Go.Proofs.Ytgdnmmobnfjegaa
set_option linter.unusedVariables false
set_option linter.unusedSimpArgs false

/-! ### targets -/

/-- What 256 times itself, k times, is. -/
def by2 (k : Nat) : Nat := 256 ^ k
theorem by2_pos (k : Nat) : 0 < by2 k := Nat.pow_pos (by omega)
theorem by2_add (i j : Nat) : by2 (i + j) = by2 i * by2 j := Nat.pow_add _ _ _
theorem by2_le {i j : Nat} (h : i ≤ j) : by2 i ≤ by2 j := Nat.pow_le_pow_right (by omega) h
theorem by2_two (k : Nat) : by2 k = 2 ^ (8 * k) := by unfold by2; rw [Nat.pow_mul]

/-- How many bytes write a number. -/
def nby (t : Nat) : Nat := (nbits t + 7) / 8
theorem nby_le (t k : Nat) : nby t ≤ k ↔ t < by2 k := by
  rw [by2_two, ← nbits_le]
  unfold nby
  omega
theorem nby_lt (t : Nat) : t < by2 (nby t) := (nby_le t _).1 (Nat.le_refl _)
theorem nby_ge {t : Nat} (h : 0 < t) : 0 < nby t ∧ by2 (nby t - 1) ≤ t := by
  have h1 : 0 < nby t := Nat.pos_of_ne_zero fun e => by
    have := nby_lt t
    rw [e] at this
    simp [by2] at this
    omega
  refine ⟨h1, Nat.le_of_not_lt fun h2 => ?_⟩
  have := (nby_le t (nby t - 1)).2 h2
  omega
theorem nby_eq {t n : Nat} (h1 : by2 (n - 1) ≤ t) (h2 : t < by2 n) (h0 : 0 < n) : nby t = n := by
  have a := (nby_le t n).2 h2
  refine Nat.le_antisymm a (Nat.le_of_not_lt fun h => ?_)
  have := (nby_le t (n - 1)).1 (by omega)
  omega

/-- The target of an exponent and a mantissa. -/
def tgt (e m : Nat) : Nat := if 3 ≤ e then m * by2 (e - 3) else m / by2 (3 - e)
/-- A target's three highest bytes. -/
def top3 (t : Nat) : Nat := if 3 ≤ nby t then t / by2 (nby t - 3) else t * by2 (3 - nby t)
/-- A target's exponent and mantissa. -/
def enE (t : Nat) : Nat := if 8388608 ≤ top3 t then nby t + 1 else nby t
def enM (t : Nat) : Nat := if 8388608 ≤ top3 t then top3 t / 256 else top3 t

theorem by2_1 : by2 1 = 256 := rfl
theorem by2_2 : by2 2 = 65536 := rfl
theorem by2_3 : by2 3 = 16777216 := rfl

theorem top3_range {t : Nat} (h : 0 < t) : 65536 ≤ top3 t ∧ top3 t < 16777216 := by
  obtain ⟨h0, h1⟩ := nby_ge h
  have h2 := nby_lt t
  unfold top3
  split
  · rename_i h3
    constructor
    · rw [Nat.le_div_iff_mul_le (by2_pos _), ← by2_2, ← by2_add]
      rwa [show 2 + (nby t - 3) = nby t - 1 by omega]
    · rw [Nat.div_lt_iff_lt_mul (by2_pos _), ← by2_3, ← by2_add]
      rwa [show 3 + (nby t - 3) = nby t by omega]
  · rename_i h3
    have e1 : by2 (nby t - 1) * by2 (3 - nby t) = 65536 := by rw [← by2_add, ← by2_2]; congr 1; omega
    have e2 : by2 (nby t) * by2 (3 - nby t) = 16777216 := by rw [← by2_add, ← by2_3]; congr 1; omega
    constructor
    · rw [← e1]; exact Nat.mul_le_mul_right _ h1
    · rw [← e2]; exact Nat.mul_lt_mul_of_pos_right h2 (by2_pos _)

theorem enM_lt {t : Nat} (h : 0 < t) : enM t < 8388608 := by
  have := (top3_range h).2
  unfold enM
  split <;> omega
theorem enM_pos {t : Nat} (h : 0 < t) : 0 < enM t := by
  have := (top3_range h).1
  unfold enM
  split <;> omega
theorem enM_ge {t : Nat} (h : 0 < t) : 32768 ≤ enM t := by
  have := (top3_range h).1
  unfold enM
  split <;> omega

/-- How many of a target's low bytes its bits leave out. -/
def cut3 (t : Nat) : Nat := if 8388608 ≤ top3 t then nby t - 2 else nby t - 3

theorem div_div3 (t i : Nat) (h : 3 ≤ i) : t / by2 (i - 3) / 256 = t / by2 (i - 2) := by
  rw [Nat.div_div_eq_div_mul, ← by2_1, ← by2_add]
  congr 2
  omega

/-- The target that a target's bits tell is it, but for the bytes that they leave out. -/
theorem tgt_en {t : Nat} (h : 0 < t) : tgt (enE t) (enM t) = t / by2 (cut3 t) * by2 (cut3 t) := by
  obtain ⟨h0, h1⟩ := nby_ge h
  unfold tgt enE enM cut3
  split
  · -- the highest bit would be the sign
    by_cases h3 : 3 ≤ nby t
    · rw [if_pos (by omega)]
      have e : top3 t / 256 = t / by2 (nby t - 2) := by
        unfold top3
        rw [if_pos h3]
        exact div_div3 t _ h3
      rw [e, show nby t + 1 - 3 = nby t - 2 by omega]
    · have e : top3 t = t * by2 (3 - nby t) := by unfold top3; rw [if_neg h3]
      rw [e]
      have h12 : nby t = 1 ∨ nby t = 2 := by omega
      rcases h12 with h2 | h2
      · rw [h2]
        show t * 65536 / 256 / 256 = t / 1 * 1
        omega
      · rw [h2]
        show t * 256 / 256 * 1 = t / 1 * 1
        omega
  · by_cases h3 : 3 ≤ nby t
    · rw [if_pos h3]
      unfold top3
      rw [if_pos h3]
    · rw [if_neg h3]
      unfold top3
      rw [if_neg h3, show nby t - 3 = 0 by omega, Nat.mul_div_cancel _ (by2_pos _)]
      simp [by2]

theorem tgt_en_le {t : Nat} (h : 0 < t) : tgt (enE t) (enM t) ≤ t := by
  rw [tgt_en h]
  exact Nat.div_mul_le_self _ _

theorem enM_hi {t : Nat} (h : 8388608 ≤ top3 t) : enM t = top3 t / 256 := if_pos h
theorem enM_lo {t : Nat} (h : ¬ 8388608 ≤ top3 t) : enM t = top3 t := if_neg h

/-- The bytes, and the three highest ones but for what is left out, are the same. -/
theorem back_same {t : Nat} (h : 0 < t) : 0 < tgt (enE t) (enM t) ∧ enE (tgt (enE t) (enM t)) = enE t ∧ enM (tgt (enE t) (enM t)) = enM t := by
  obtain ⟨h0, h1⟩ := nby_ge h
  have h2 := nby_lt t
  have hr := top3_range h
  by_cases h3 : 3 ≤ nby t
  · have ht : top3 t = t / by2 (nby t - 3) := by unfold top3; rw [if_pos h3]
    by_cases h4 : 8388608 ≤ top3 t
    · have ec : cut3 t = nby t - 2 := if_pos h4
      have e1 : enE t = nby t + 1 := if_pos h4
      have e2 : enM t = top3 t / 256 := if_pos h4
      have eb : tgt (enE t) (enM t) = enM t * by2 (nby t - 2) := by
        unfold tgt
        rw [e1, if_pos (by omega), show nby t + 1 - 3 = nby t - 2 by omega]
      have hm1 : 32768 ≤ enM t := enM_ge h
      have hm2 : enM t < 65536 := by rw [e2]; omega
      rw [eb]
      have hp := by2_pos (nby t - 2)
      have n1 : by2 (nby t - 1) = 256 * by2 (nby t - 2) := by rw [← by2_1, ← by2_add]; congr 1; omega
      have n2 : by2 (nby t) = 65536 * by2 (nby t - 2) := by rw [← by2_2, ← by2_add]; congr 1; omega
      have hn : nby (enM t * by2 (nby t - 2)) = nby t := by
        refine nby_eq ?_ ?_ h0
        · rw [n1]; exact Nat.mul_le_mul_right _ (by omega)
        · rw [n2]; exact Nat.mul_lt_mul_of_pos_right hm2 hp
      have ht3 : top3 (enM t * by2 (nby t - 2)) = enM t * 256 := by
        unfold top3
        rw [hn, if_pos h3, show nby t - 2 = 1 + (nby t - 3) by omega, by2_add, ← Nat.mul_assoc, Nat.mul_div_cancel _ (by2_pos _), by2_1]
      refine ⟨Nat.mul_pos (by omega) hp, ?_, ?_⟩
      · rw [e1]; unfold enE; rw [ht3, if_pos (by omega), hn]
      · rw [enM_hi (by rw [ht3]; omega), ht3]
        omega
    · have e1 : enE t = nby t := if_neg h4
      have e2 : enM t = top3 t := if_neg h4
      have eb : tgt (enE t) (enM t) = enM t * by2 (nby t - 3) := by
        unfold tgt
        rw [e1, if_pos h3]
      have hm1 : 65536 ≤ enM t := by omega
      have hm2 : enM t < 8388608 := by omega
      rw [eb]
      have hp := by2_pos (nby t - 3)
      have n1 : by2 (nby t - 1) = 65536 * by2 (nby t - 3) := by rw [← by2_2, ← by2_add]; congr 1; omega
      have n2 : by2 (nby t) = 16777216 * by2 (nby t - 3) := by rw [← by2_3, ← by2_add]; congr 1; omega
      have hn : nby (enM t * by2 (nby t - 3)) = nby t := by
        refine nby_eq ?_ ?_ h0
        · rw [n1]; exact Nat.mul_le_mul_right _ (by omega)
        · rw [n2]; exact Nat.mul_lt_mul_of_pos_right (by omega) hp
      have ht3 : top3 (enM t * by2 (nby t - 3)) = enM t := by
        unfold top3
        rw [hn, if_pos h3, Nat.mul_div_cancel _ (by2_pos _)]
      refine ⟨Nat.mul_pos (by omega) hp, ?_, ?_⟩
      · rw [e1]; unfold enE; rw [ht3, if_neg (by omega), hn]
      · rw [enM_lo (by rw [ht3]; omega), ht3]
  · -- all bytes are told
    have ec : cut3 t = 0 := by unfold cut3; split <;> omega
    have e := tgt_en h
    rw [ec, show by2 0 = 1 from rfl, Nat.div_one, Nat.mul_one] at e
    rw [e]
    exact ⟨h, rfl, rfl⟩

/-- What bits tell is told again by its bits. -/
theorem tgt_again {e m : Nat} (hm : m < 8388608) (h : 0 < tgt e m) : tgt (enE (tgt e m)) (enM (tgt e m)) = tgt e m := by
  rw [tgt_en h]
  have hz : tgt e m % by2 (cut3 (tgt e m)) = 0 := by
    by_cases he : 3 ≤ e
    · have eq : tgt e m = m * by2 (e - 3) := if_pos he
      have hm0 : 0 < m := Nat.pos_of_ne_zero fun z => by rw [eq, z, Nat.zero_mul] at h; omega
      have hle : nby (tgt e m) ≤ e := by
        rw [nby_le, eq, show e = 3 + (e - 3) by omega, by2_add, show 3 + (e - 3) - 3 = e - 3 by omega, by2_3]
        exact Nat.mul_lt_mul_of_pos_right (by omega) (by2_pos _)
      have hc : cut3 (tgt e m) ≤ e - 3 := by
        unfold cut3
        split
        · rename_i h4
          by_cases hn : nby (tgt e m) = e
          · exfalso
            have : top3 (tgt e m) = m := by
              unfold top3
              rw [hn, if_pos he, eq, Nat.mul_div_cancel _ (by2_pos _)]
            omega
          · omega
        · omega
      generalize cut3 (tgt e m) = c at *
      rw [eq, show e - 3 = (e - 3 - c) + c by omega, by2_add, ← Nat.mul_assoc]
      exact Nat.mul_mod_left _ _
    · have eq : tgt e m = m / by2 (3 - e) := if_neg he
      have hle : nby (tgt e m) ≤ e := by
        rw [nby_le, eq, Nat.div_lt_iff_lt_mul (by2_pos _), ← by2_add, show e + (3 - e) = 3 by omega, by2_3]
        omega
      have : cut3 (tgt e m) = 0 := by
        unfold cut3
        split <;> omega
      rw [this]
      exact Nat.mod_one _
  have := Nat.div_add_mod (tgt e m) (by2 (cut3 (tgt e m)))
  rw [Nat.mul_comm] at this
  omega
end Go.Proofs.Ytgdnmmobnfjegaa
