/- The document's answer 02 (digest): how it reckons the standard's constants, as Lean says it; that they are the standard's. Nothing here speaks of the program. -/
import Derived.Test.YtpmdmojgpfpoeaaDoorShaS
namespace Go.Proofs.YtpmdmojgpfpoeaaDoor
set_option linter.unusedVariables false
set_option linter.unusedSimpArgs false

/-- The digits of what is carried. -/
def dig : Nat → Nat → List Nat
  | 0, _ => []
  | f + 1, c => if c = 0 then [] else c % 65536 :: dig f (c / 65536)

/-- Digits times x, with a carry. -/
def mulL : List Nat → Nat → Nat → List Nat
  | [], x, c => dig 8 c
  | d :: l, x, c => (c + d * x) % 65536 :: mulL l x ((c + d * x) / 65536)

def powL (x : Nat) : Nat → List Nat
  | 0 => [1]
  | n + 1 => mulL (powL x n) x 0

theorem dig_fuel : ∀ f c, c < 65536 ^ f → dig (f + 1) c = dig f c
  | 0, c, h => by
    have : c = 0 := by simpa using h
    subst this
    rfl
  | f + 1, c, h => by
    show (if c = 0 then [] else c % 65536 :: dig (f + 1) (c / 65536)) = (if c = 0 then [] else c % 65536 :: dig f (c / 65536))
    split
    · rfl
    · rw [dig_fuel f (c / 65536) (by rw [Nat.div_lt_iff_lt_mul (by omega)]; rw [Nat.pow_succ] at h; exact h)]

theorem dig_zero : dig 8 0 = [] := rfl
theorem dig_step (c : Nat) (h0 : 0 < c) (h : c < 18446744073709551616) : dig 8 c = c % 65536 :: dig 8 (c / 65536) := by
  have e : dig 8 c = c % 65536 :: dig 7 (c / 65536) := by
    show (if c = 0 then [] else c % 65536 :: dig 7 (c / 65536)) = _
    rw [if_neg (by omega)]
  rw [e, dig_fuel 7 _ (by
    have : (65536 : Nat) ^ 7 = 5192296858534827628530496329220096 := by decide
    omega)]

theorem dig_small : ∀ f c, ∀ d ∈ dig f c, d < 65536
  | 0, _ => by simp [dig]
  | f + 1, c => by
    intro d hd
    rw [dig] at hd
    split at hd
    · cases hd
    · rcases List.mem_cons.1 hd with rfl | hd
      · omega
      · exact dig_small f _ d hd

theorem mulL_small : ∀ l x c, ∀ d ∈ mulL l x c, d < 65536
  | [], x, c => dig_small 8 c
  | e :: l, x, c => by
    intro d hd
    rcases List.mem_cons.1 hd with rfl | hd
    · omega
    · exact mulL_small l x _ d hd

theorem powL_small (x : Nat) : ∀ n, ∀ d ∈ powL x n, d < 65536
  | 0 => by simp [powL]
  | n + 1 => mulL_small _ _ _

theorem dig_length : ∀ f c, (dig f c).length ≤ f
  | 0, _ => by simp [dig]
  | f + 1, c => by
    rw [dig]
    split
    · simp
    · simp only [List.length_cons]
      have := dig_length f (c / 65536)
      omega

theorem mulL_length : ∀ l x c, (mulL l x c).length ≤ l.length + 8
  | [], x, c => by have := dig_length 8 c; simpa [mulL] using this
  | e :: l, x, c => by have := mulL_length l x ((c + e * x) / 65536); simp only [mulL, List.length_cons]; omega

theorem powL_length (x : Nat) : ∀ n, (powL x n).length ≤ 1 + 8 * n
  | 0 => by simp [powL]
  | n + 1 => by have := mulL_length (powL x n) x 0; have := powL_length x n; simp only [powL]; omega

/-- Which of two is greater, by sixteen digits. -/
def ovr (a b : List Nat) : Nat → Bool
  | 0 => false
  | i + 1 => if a.getD i 0 = b.getD i 0 then ovr a b i else decide (b.getD i 0 < a.getD i 0)

def wantL (p n : Nat) : List Nat := List.replicate (2 * n) 0 ++ [p]

/-- The bits that are left. -/
def rootX (p n : Nat) : Nat → Nat → Nat
  | 0, x => x
  | b + 1, x => rootX p n b (if ovr (powL (x + 2 ^ b) n) (wantL p n) 16 then x else x + 2 ^ b)

def rootN (p n : Nat) : Nat := rootX p n 36 0 % 4294967296

/-- The primes below. -/
def primesB : Nat → List Nat
  | 0 => []
  | p + 1 => if p < 2 then [] else if (primesB p).all (fun q => decide (p % q ≠ 0)) then primesB p ++ [p] else primesB p

theorem primesB_pos : ∀ p, ∀ q ∈ primesB p, 2 ≤ q ∧ q < p
  | 0 => by simp [primesB]
  | p + 1 => by
    intro q hq
    rw [primesB] at hq
    split at hq
    · cases hq
    · split at hq
      · rcases List.mem_append.1 hq with hq | hq
        · have := primesB_pos p q hq; omega
        · have : q = p := by simpa using hq
          omega
      · have := primesB_pos p q hq; omega

theorem primesB_step (p : Nat) (h : 2 ≤ p) : primesB (p + 1) = if (primesB p).all (fun q => decide (p % q ≠ 0)) then primesB p ++ [p] else primesB p := by
  rw [primesB, if_neg (by omega)]

theorem primesB_mono (p : Nat) (h : 2 ≤ p) : ∀ u, (primesB p).length ≤ (primesB (p + u)).length
  | 0 => Nat.le_refl _
  | u + 1 => by
    refine Nat.le_trans (primesB_mono p h u) ?_
    rw [← Nat.add_assoc, primesB_step _ (by omega)]
    split <;> simp

theorem primes_311 : (primesB 311).length = 63 := by decide +kernel
theorem primes_312 : (primesB 312).length = 64 := by decide +kernel

theorem primes_few (p : Nat) (h : 2 ≤ p) (h' : p < 312) : (primesB p).length < 64 := by
  have := primesB_mono p h (311 - p)
  rw [show p + (311 - p) = 311 by omega, primes_311] at this
  omega

theorem cubes_right : (primesB 312).map (fun p => rootN p 3) = cubesN := by decide +kernel
theorem squares_right : ((primesB 312).take 8).map (fun p => rootN p 2) = squaresN := by decide +kernel
theorem primes_small : ∀ p ∈ primesB 312, p < 312 := fun p h => (primesB_pos 312 p h).2

theorem cubes_at (i : Nat) (h : i < 64) : BitVec.ofNat 32 (rootN ((primesB 312).getD i 0) 3) = cubesL.getD i 0 := by
  rw [cubesL, ← cubes_right]
  simp [List.getD, List.getElem?_eq_getElem (show i < (primesB 312).length by rw [primes_312]; exact h)]

theorem squares_at (i : Nat) (h : i < 8) : BitVec.ofNat 32 (rootN ((primesB 312).getD i 0) 2) = H0.getD i 0 := by
  rw [H0, ← squares_right]
  have h8 : i < ((primesB 312).take 8).length := by rw [List.length_take, primes_312]; omega
  simp [List.getD, List.getElem?_take, h, List.getElem?_eq_getElem (show i < (primesB 312).length by rw [primes_312]; omega)]
end Go.Proofs.YtpmdmojgpfpoeaaDoor
