/- A division of two words by one, digit by digit (of 32 bits). Nothing here speaks of the program. -/
import Derived.Test.YtgdnmmobnfjegaaWm
namespace Go.Proofs.Ytgdnmmobnfjegaa
set_option linter.unusedVariables false
set_option linter.unusedSimpArgs false

/-- What a guess of a digit must be. -/
structure Guess (y1 y0 u d q r : Nat) : Prop where
  eq : u = q * y1 + r
  ge : (u * 4294967296 + d) / (y1 * 4294967296 + y0) ≤ q

theorem dig_lt {y u d : Nat} (hy : 0 < y) (hu : u < y) (hd : d < 4294967296) : (u * 4294967296 + d) / y < 4294967296 := by
  rw [Nat.div_lt_iff_lt_mul hy]
  have : (u + 1) * 4294967296 ≤ y * 4294967296 := Nat.mul_le_mul_right _ hu
  rw [Nat.add_mul] at this
  rw [Nat.mul_comm 4294967296 y]
  omega

theorem guess_first {y1 y0 u d : Nat} (h1 : 0 < y1) (h0 : y0 < 4294967296) (hd : d < 4294967296) : Guess y1 y0 u d (u / y1) (u % y1) := by
  refine ⟨?_, ?_⟩
  · have := Nat.mod_add_div u y1
    rw [Nat.mul_comm (u / y1)]
    omega
  · have hY : 0 < y1 * 4294967296 + y0 := by omega
    generalize hq : (u * 4294967296 + d) / (y1 * 4294967296 + y0) = q
    have h2 : q * (y1 * 4294967296 + y0) ≤ u * 4294967296 + d := by rw [← hq]; exact Nat.div_mul_le_self _ _
    rw [Nat.le_div_iff_mul_le h1]
    rw [Nat.mul_add, ← Nat.mul_assoc] at h2
    generalize q * y1 = z at *
    generalize q * y0 = t at *
    omega

/-- The guess is too great just if the test says so. -/
theorem guess_test {y1 y0 u d q r : Nat} (g : Guess y1 y0 u d q r) : (q * y0 > r * 4294967296 + d) ↔ q * (y1 * 4294967296 + y0) > u * 4294967296 + d := by
  rw [g.eq, Nat.mul_add, ← Nat.mul_assoc, Nat.add_mul]
  generalize q * y1 = z
  generalize q * y0 = t
  omega

theorem guess_less {y1 y0 u d q r : Nat} (hY : 0 < y1 * 4294967296 + y0) (g : Guess y1 y0 u d q r) (h : q * (y1 * 4294967296 + y0) > u * 4294967296 + d) : 0 < q ∧ Guess y1 y0 u d (q - 1) (r + y1) := by
  have hlt : (u * 4294967296 + d) / (y1 * 4294967296 + y0) < q := by rw [Nat.div_lt_iff_lt_mul hY]; omega
  refine ⟨Nat.lt_of_le_of_lt (Nat.zero_le _) hlt, ?_, Nat.le_sub_one_of_lt hlt⟩
  have hq0 : 0 < q := Nat.lt_of_le_of_lt (Nat.zero_le _) hlt
  clear hlt
  obtain ⟨k, rfl⟩ : ∃ k, q = k + 1 := ⟨q - 1, by omega⟩
  rw [Nat.add_sub_cancel, g.eq, Nat.add_mul]
  omega

theorem guess_big {y1 y0 u d q r : Nat} (hY : 0 < y1 * 4294967296 + y0) (hu : u < y1 * 4294967296 + y0) (hd : d < 4294967296) (g : Guess y1 y0 u d q r) (h : 4294967296 ≤ q) : 0 < q ∧ Guess y1 y0 u d (q - 1) (r + y1) := by
  have hq := dig_lt hY hu hd
  refine guess_less hY g ?_
  have : (u * 4294967296 + d) / (y1 * 4294967296 + y0) < q := Nat.lt_of_lt_of_le hq h
  rw [Nat.div_lt_iff_lt_mul hY] at this
  exact this

theorem guess_end {y1 y0 u d q r : Nat} (hY : 0 < y1 * 4294967296 + y0) (g : Guess y1 y0 u d q r) (h : ¬ q * (y1 * 4294967296 + y0) > u * 4294967296 + d) : q = (u * 4294967296 + d) / (y1 * 4294967296 + y0) := by
  refine Nat.le_antisymm ?_ g.ge
  rw [Nat.le_div_iff_mul_le hY]
  omega

/-- A guess whose rest is great is right. -/
theorem guess_rest {y1 y0 u d q r : Nat} (hY : 0 < y1 * 4294967296 + y0) (h0 : y0 < 4294967296) (hq : q ≤ 4294967296) (g : Guess y1 y0 u d q r) (h : 4294967296 ≤ r) : q = (u * 4294967296 + d) / (y1 * 4294967296 + y0) := by
  refine guess_end hY g ?_
  rw [← guess_test g]
  have h1 : q * y0 ≤ 4294967296 * y0 := Nat.mul_le_mul_right _ hq
  omega

theorem guess_small {y1 y0 u : Nat} (h1 : 2147483648 ≤ y1) (h0 : y0 < 4294967296) (hu : u < y1 * 4294967296 + y0) : u / y1 ≤ 4294967297 := by
  have : u / y1 < 4294967298 := by
    rw [Nat.div_lt_iff_lt_mul (by omega)]
    omega
  omega

theorem two_digits (u v1 v0 y : Nat) (hy : 0 < y) : (u * 18446744073709551616 + (v1 * 4294967296 + v0)) / y = (u * 4294967296 + v1) / y * 4294967296 + ((u * 4294967296 + v1) % y * 4294967296 + v0) / y ∧
    (u * 18446744073709551616 + (v1 * 4294967296 + v0)) % y = ((u * 4294967296 + v1) % y * 4294967296 + v0) % y := by
  have e : u * 18446744073709551616 + (v1 * 4294967296 + v0) = ((u * 4294967296 + v1) % y * 4294967296 + v0) + y * ((u * 4294967296 + v1) / y * 4294967296) := by
    have h := Nat.mod_add_div (u * 4294967296 + v1) y
    generalize (u * 4294967296 + v1) / y = q at *
    generalize (u * 4294967296 + v1) % y = r at *
    rw [← Nat.mul_assoc]
    generalize y * q = z at *
    omega
  rw [e, Nat.add_mul_div_left _ _ hy, Nat.add_mul_mod_self_left]
  exact ⟨Nat.add_comm _ _, rfl⟩

theorem shifted_div (n y s : Nat) : n * 2 ^ s / (y * 2 ^ s) = n / y ∧ n * 2 ^ s % (y * 2 ^ s) / 2 ^ s = n % y := by
  have hp := Nat.two_pow_pos s
  refine ⟨Nat.mul_div_mul_right _ _ hp, ?_⟩
  rw [Nat.mul_mod_mul_right, Nat.mul_div_cancel _ hp]

theorem norm_div {hi lo y s Y U V : Nat} (hlt : hi < y) (hs : s ≤ 64) (hY : Y = y * 2 ^ s) (hU : U = hi * 2 ^ s + lo / 2 ^ (64 - s)) (hV : V = lo * 2 ^ s % 2 ^ 64) (hlo : lo < 2 ^ 64) :
    U < Y ∧ (hi * 18446744073709551616 + lo) * 2 ^ s = U * 18446744073709551616 + V ∧ lo / 2 ^ (64 - s) < 2 ^ s := by
  have ps : (2 : Nat) ^ 64 = 2 ^ (64 - s) * 2 ^ s := by rw [← Nat.pow_add]; congr 1; omega
  have hl : lo / 2 ^ (64 - s) < 2 ^ s := by
    rw [Nat.div_lt_iff_lt_mul (Nat.two_pow_pos _), Nat.mul_comm, ← ps]
    exact hlo
  refine ⟨?_, ?_, hl⟩
  · have h1 : (hi + 1) * 2 ^ s ≤ y * 2 ^ s := Nat.mul_le_mul_right _ hlt
    rw [Nat.add_mul] at h1
    omega
  · have h1 := Nat.mod_add_div (lo * 2 ^ s) (2 ^ 64)
    have h2 : lo * 2 ^ s / 2 ^ 64 = lo / 2 ^ (64 - s) := by rw [ps, Nat.mul_div_mul_right _ _ (Nat.two_pow_pos _)]
    rw [h2, ← hV] at h1
    rw [hU, Nat.add_mul, Nat.add_mul, ← h1]
    generalize lo / 2 ^ (64 - s) = z
    have : hi * 18446744073709551616 * 2 ^ s = hi * 2 ^ s * 18446744073709551616 := by rw [Nat.mul_right_comm]
    omega

/-- How a digit's rest is reckoned, modulo 2 to the power of 64. -/
theorem dig_rest {u d y q : Nat} (hy : y < 18446744073709551616) (h0 : 0 < y) (hd : d < 4294967296) (hq : q = (u * 4294967296 + d) / y) :
    (((u : Int) * 4294967296 % 18446744073709551616 + d) % 18446744073709551616 - (q : Int) * y % 18446744073709551616) % 18446744073709551616 = (((u * 4294967296 + d) % y : Nat) : Int) := by
  have h := Nat.mod_add_div (u * 4294967296 + d) y
  have hl := Nat.mod_lt (u * 4294967296 + d) h0
  rw [← hq] at h
  generalize (u * 4294967296 + d) % y = r at *
  have e : (q : Int) * y = ((y * q : Nat) : Int) := by rw [Int.natCast_mul, Int.mul_comm]
  rw [e]
  generalize y * q = z at *
  omega
end Go.Proofs.Ytgdnmmobnfjegaa
