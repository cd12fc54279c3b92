/- Layer 3 (wide): its arithmetic, word by word. Nothing here speaks of the program. -/
import Derived.Test.YtgdnmmobnfjegaaNum
namespace Go.Proofs.Ytgdnmmobnfjegaa
set_option linter.unusedVariables false
set_option linter.unusedSimpArgs false

/-- 2 to the power of 256, behind a name. -/
def W256 : Nat := 2 ^ 256
theorem W256_eq : W256 = 2 ^ (64 * 4) := rfl
theorem W256_pos : 0 < W256 := Nat.two_pow_pos 256

def addLo (x y c : Nat) : Nat := (x + y + c) % 2 ^ 64
def addHi (x y c : Nat) : Nat := (x + y + c) / 2 ^ 64
def subLo (x y b : Nat) : Nat := (x + 2 ^ 64 - y - b) % 2 ^ 64
def subHi (x y b : Nat) : Nat := if x < y + b then 1 else 0
def mulLo (x y : Nat) : Nat := x * y % 2 ^ 64
def mulHi (x y : Nat) : Nat := x * y / 2 ^ 64

theorem addLo_lt (x y c : Nat) : addLo x y c < 2 ^ 64 := Nat.mod_lt _ (Nat.two_pow_pos _)
theorem subLo_lt (x y c : Nat) : subLo x y c < 2 ^ 64 := Nat.mod_lt _ (Nat.two_pow_pos _)
theorem mulLo_lt (x y : Nat) : mulLo x y < 2 ^ 64 := Nat.mod_lt _ (Nat.two_pow_pos _)
theorem subHi_le (x y b : Nat) : subHi x y b ≤ 1 := by unfold subHi; split <;> omega
theorem addHi_le {x y c : Nat} (hx : x < 2 ^ 64) (hy : y < 2 ^ 64) (hc : c ≤ 1) : addHi x y c ≤ 1 := by unfold addHi; omega

theorem md_at (P B r q : Nat) (h : r < P) : (r + P * q) % (P * B) = r + P * (q % B) := by
  rw [Nat.mod_mul, Nat.add_mul_mod_self_left, Nat.mod_eq_of_lt h, Nat.add_mul_div_left _ _ (by omega), Nat.div_eq_of_lt h, Nat.zero_add]
theorem dv_at (P B r q : Nat) (h : r < P) : (r + P * q) / (P * B) = q / B := by
  rw [← Nat.div_div_eq_div_mul, Nat.add_mul_div_left _ _ (by omega), Nat.div_eq_of_lt h, Nat.zero_add]
theorem pow_next (i : Nat) : 2 ^ (64 * (i + 1)) = 2 ^ (64 * i) * 2 ^ 64 := by rw [← Nat.pow_add]; congr 1

/-! ### the sum -/
def adT (a b i : Nat) : Nat := a % 2 ^ (64 * i) + b % 2 ^ (64 * i)
def adS (a b i : Nat) : Nat := adT a b i % 2 ^ (64 * i)
def adC (a b i : Nat) : Nat := adT a b i / 2 ^ (64 * i)

theorem adT_succ (a b i : Nat) : adT a b (i + 1) = adS a b i + 2 ^ (64 * i) * (dgt 64 a i + dgt 64 b i + adC a b i) := by
  have h := Nat.mod_add_div (adT a b i) (2 ^ (64 * i))
  have e : adT a b (i + 1) = adT a b i + 2 ^ (64 * i) * (dgt 64 a i + dgt 64 b i) := by
    unfold adT
    rw [mod_succ, mod_succ, Nat.mul_add]
    omega
  rw [e, adS, adC, Nat.mul_add _ _ (adT a b i / _)]
  omega

theorem adS_lt (a b i : Nat) : adS a b i < 2 ^ (64 * i) := Nat.mod_lt _ (Nat.two_pow_pos _)
theorem adS_succ (a b i : Nat) : adS a b (i + 1) = adS a b i + 2 ^ (64 * i) * addLo (dgt 64 a i) (dgt 64 b i) (adC a b i) := by
  show adT a b (i + 1) % _ = _
  rw [adT_succ, pow_next, md_at _ _ _ _ (adS_lt a b i)]
  rfl
theorem adC_succ (a b i : Nat) : adC a b (i + 1) = addHi (dgt 64 a i) (dgt 64 b i) (adC a b i) := by
  show adT a b (i + 1) / _ = _
  rw [adT_succ, pow_next, dv_at _ _ _ _ (adS_lt a b i)]
  rfl
theorem adC_le (a b i : Nat) : adC a b i ≤ 1 := by
  have h1 := Nat.mod_lt a (Nat.two_pow_pos (64 * i))
  have h2 := Nat.mod_lt b (Nat.two_pow_pos (64 * i))
  have : adT a b i < 2 ^ (64 * i) * 2 := by unfold adT; omega
  have := (Nat.div_lt_iff_lt_mul (Nat.two_pow_pos (64 * i))).2 (show adT a b i < 2 * 2 ^ (64 * i) by omega)
  unfold adC
  omega
theorem adS_zero (a b : Nat) : adS a b 0 = 0 := by simp [adS, Nat.mod_one]
theorem adC_zero (a b : Nat) : adC a b 0 = 0 := by simp [adC, adT, Nat.mod_one]
theorem adS_all (a b : Nat) (ha : a < W256) (hb : b < W256) : adS a b 4 = (a + b) % W256 := by
  unfold adS adT
  rw [← W256_eq, Nat.mod_eq_of_lt ha, Nat.mod_eq_of_lt hb]
theorem adC_all (a b : Nat) (ha : a < W256) (hb : b < W256) : (adC a b 4 != 0) = decide (W256 ≤ a + b) := by
  unfold adC adT
  rw [← W256_eq, Nat.mod_eq_of_lt ha, Nat.mod_eq_of_lt hb]
  by_cases h : W256 ≤ a + b
  · have : 0 < (a + b) / W256 := Nat.div_pos h W256_pos
    simp only [h, decide_true]
    exact bne_iff_ne.2 (by omega)
  · rw [Nat.div_eq_of_lt (by omega)]
    simp [h]

/-! ### the difference -/
def sbT (a b i : Nat) : Nat := a % 2 ^ (64 * i) + 2 ^ (64 * i) - b % 2 ^ (64 * i)
def sbS (a b i : Nat) : Nat := sbT a b i % 2 ^ (64 * i)
def sbC (a b i : Nat) : Nat := if a % 2 ^ (64 * i) < b % 2 ^ (64 * i) then 1 else 0

theorem sbS_lt (a b i : Nat) : sbS a b i < 2 ^ (64 * i) := Nat.mod_lt _ (Nat.two_pow_pos _)
theorem sbC_le (a b i : Nat) : sbC a b i ≤ 1 := by unfold sbC; split <;> omega

theorem sb_eq (a b i : Nat) : a % 2 ^ (64 * i) + 2 ^ (64 * i) * sbC a b i = b % 2 ^ (64 * i) + sbS a b i := by
  have h1 := Nat.mod_lt a (Nat.two_pow_pos (64 * i))
  have h2 := Nat.mod_lt b (Nat.two_pow_pos (64 * i))
  unfold sbC sbS sbT
  generalize a % 2 ^ (64 * i) = x at *
  generalize b % 2 ^ (64 * i) = y at *
  generalize 2 ^ (64 * i) = P at *
  split
  · rw [Nat.mod_eq_of_lt (by omega)]; omega
  · rw [show x + P - y = x - y + P by omega, Nat.add_mod_right, Nat.mod_eq_of_lt (by omega)]; omega

theorem sb_uniq (P x y s c s' c' : Nat) (h : x + P * c = y + s) (h' : x + P * c' = y + s') (hs : s < P) (hs' : s' < P) (hc : c ≤ 1) (hc' : c' ≤ 1) : s = s' ∧ c = c' := by
  have e0 : c = 0 ∨ c = 1 := by omega
  have e1 : c' = 0 ∨ c' = 1 := by omega
  rcases e0 with rfl | rfl <;> rcases e1 with rfl | rfl <;> simp at h h' ⊢ <;> omega

theorem sub_eq (x y b : Nat) (hx : x < 2 ^ 64) (hy : y < 2 ^ 64) (hb : b ≤ 1) : x + 2 ^ 64 * subHi x y b = y + b + subLo x y b := by
  unfold subHi subLo
  split <;> omega

theorem sb_succ (a b i : Nat) : sbS a b (i + 1) = sbS a b i + 2 ^ (64 * i) * subLo (dgt 64 a i) (dgt 64 b i) (sbC a b i) ∧ sbC a b (i + 1) = subHi (dgt 64 a i) (dgt 64 b i) (sbC a b i) := by
  have h0 := sb_eq a b i
  have h1 := sb_eq a b (i + 1)
  have h2 := sub_eq (dgt 64 a i) (dgt 64 b i) (sbC a b i) (dgt_lt _ _ _) (dgt_lt _ _ _) (sbC_le a b i)
  have h3 := subLo_lt (dgt 64 a i) (dgt 64 b i) (sbC a b i)
  have h4 := sbS_lt a b i
  refine sb_uniq (2 ^ (64 * (i + 1))) (a % 2 ^ (64 * (i + 1))) (b % 2 ^ (64 * (i + 1))) _ _ _ _ h1 ?_ (sbS_lt _ _ _) ?_ (sbC_le _ _ _) (subHi_le _ _ _)
  · rw [mod_succ, mod_succ, pow_next]
    generalize dgt 64 a i = x at *
    generalize dgt 64 b i = y at *
    generalize sbC a b i = c at *
    generalize subHi x y c = H at *
    generalize subLo x y c = L at *
    have e : 2 ^ (64 * i) * (x + 2 ^ 64 * H) = 2 ^ (64 * i) * (y + c + L) := by rw [h2]
    rw [Nat.mul_add, Nat.mul_add, Nat.mul_add, ← Nat.mul_assoc] at e
    omega
  · rw [pow_next]
    have : 2 ^ (64 * i) * (subLo (dgt 64 a i) (dgt 64 b i) (sbC a b i) + 1) ≤ 2 ^ (64 * i) * 2 ^ 64 := Nat.mul_le_mul_left _ h3
    rw [Nat.mul_add] at this
    omega
theorem sbS_zero (a b : Nat) : sbS a b 0 = 0 := by simp [sbS, Nat.mod_one]
theorem sbC_zero (a b : Nat) : sbC a b 0 = 0 := by simp [sbC, Nat.mod_one]
theorem sbS_all (a b : Nat) (ha : a < W256) (hb : b < W256) : sbS a b 4 = (a + W256 - b) % W256 := by
  unfold sbS sbT
  rw [← W256_eq, Nat.mod_eq_of_lt ha, Nat.mod_eq_of_lt hb]
theorem sbC_all (a b : Nat) (ha : a < W256) (hb : b < W256) : (sbC a b 4 != 0) = decide (a < b) := by
  unfold sbC
  rw [← W256_eq, Nat.mod_eq_of_lt ha, Nat.mod_eq_of_lt hb]
  by_cases h : a < b <;> simp [h]

/-! ### the product -/
def mlT (a x i : Nat) : Nat := a % 2 ^ (64 * i) * x
def mlS (a x i : Nat) : Nat := mlT a x i % 2 ^ (64 * i)
def mlH (a x i : Nat) : Nat := mlT a x i / 2 ^ (64 * i)
theorem mlS_lt (a x i : Nat) : mlS a x i < 2 ^ (64 * i) := Nat.mod_lt _ (Nat.two_pow_pos _)
theorem mlT_succ (a x i : Nat) : mlT a x (i + 1) = mlS a x i + 2 ^ (64 * i) * (dgt 64 a i * x + mlH a x i) := by
  have h := Nat.mod_add_div (mlT a x i) (2 ^ (64 * i))
  have e : mlT a x (i + 1) = mlT a x i + 2 ^ (64 * i) * (dgt 64 a i * x) := by
    unfold mlT
    rw [mod_succ, Nat.add_mul, Nat.mul_assoc]
  rw [e, mlS, mlH, Nat.mul_add]
  omega
theorem mlH_lt (a x i : Nat) (hx : x < 2 ^ 64) : mlH a x i < 2 ^ 64 := by
  unfold mlH mlT
  rw [Nat.div_lt_iff_lt_mul (Nat.two_pow_pos _)]
  have h1 := Nat.mod_lt a (Nat.two_pow_pos (64 * i))
  calc a % 2 ^ (64 * i) * x ≤ a % 2 ^ (64 * i) * 2 ^ 64 := Nat.mul_le_mul_left _ (by omega)
    _ < 2 ^ (64 * i) * 2 ^ 64 := Nat.mul_lt_mul_of_pos_right h1 (Nat.two_pow_pos _)
    _ = 2 ^ 64 * 2 ^ (64 * i) := Nat.mul_comm _ _
theorem ml_step (d x H : Nat) : addLo (mulLo d x) H 0 = (d * x + H) % 2 ^ 64 ∧ mulHi d x + addHi (mulLo d x) H 0 = (d * x + H) / 2 ^ 64 := by
  unfold addLo addHi mulLo mulHi
  generalize d * x = q
  omega
theorem mlS_succ (a x i : Nat) : mlS a x (i + 1) = mlS a x i + 2 ^ (64 * i) * addLo (mulLo (dgt 64 a i) x) (mlH a x i) 0 := by
  show mlT a x (i + 1) % _ = _
  rw [mlT_succ, pow_next, md_at _ _ _ _ (mlS_lt a x i), (ml_step _ _ _).1]
theorem mlH_succ (a x i : Nat) : mlH a x (i + 1) = mulHi (dgt 64 a i) x + addHi (mulLo (dgt 64 a i) x) (mlH a x i) 0 := by
  show mlT a x (i + 1) / _ = _
  rw [mlT_succ, pow_next, dv_at _ _ _ _ (mlS_lt a x i), (ml_step _ _ _).2]
theorem mlS_zero (a x : Nat) : mlS a x 0 = 0 := by simp [mlS, Nat.mod_one]
theorem mlH_zero (a x : Nat) : mlH a x 0 = 0 := by simp [mlH, mlT, Nat.mod_one]
theorem mlS_all (a x : Nat) (ha : a < W256) : mlS a x 4 = a * x % W256 := by
  unfold mlS mlT
  rw [← W256_eq, Nat.mod_eq_of_lt ha]
theorem mlH_all (a x : Nat) (ha : a < W256) : (mlH a x 4 != 0) = decide (W256 ≤ a * x) := by
  unfold mlH mlT
  rw [← W256_eq, Nat.mod_eq_of_lt ha]
  by_cases h : W256 ≤ a * x
  · have : 0 < (a * x) / W256 := Nat.div_pos h W256_pos
    simp only [h, decide_true]
    exact bne_iff_ne.2 (by omega)
  · rw [Nat.div_eq_of_lt (by omega)]
    simp [h]

/-! ### turned over -/
/-- With its first words turned over. -/
def notU (a : Nat) : Nat → Nat
  | 0 => a
  | i + 1 => putw 64 (notU a i) i (2 ^ 64 - 1 - dgt 64 a i)

theorem notU_dgt (a : Nat) : ∀ i j, dgt 64 (notU a i) j = if j < i then 2 ^ 64 - 1 - dgt 64 a j else dgt 64 a j
  | 0, j => by simp [notU]
  | i + 1, j => by
    rw [notU, putw_dgt _ _ _ _ _ (by have := dgt_lt 64 a i; omega), notU_dgt a i j]
    by_cases h : j = i
    · subst h; simp
    · simp only [h, if_false]
      by_cases h2 : j < i
      · rw [if_pos h2, if_pos (by omega)]
      · rw [if_neg h2, if_neg (by omega)]

theorem comp_dgt (n : Nat) : ∀ (a i : Nat), i < n → a < 2 ^ (64 * n) → dgt 64 (2 ^ (64 * n) - 1 - a) i = 2 ^ 64 - 1 - dgt 64 a i := by
  induction n with
  | zero => intro a i hi _; omega
  | succ n ih =>
    intro a i hi ha
    have e1 := pow_next n
    have hm := Nat.mod_lt a (Nat.two_pow_pos (64 * n))
    have hd : a / 2 ^ (64 * n) < 2 ^ 64 := by rw [Nat.div_lt_iff_lt_mul (Nat.two_pow_pos _)]; rw [e1, Nat.mul_comm] at ha; exact ha
    have hq : dgt 64 a n = a / 2 ^ (64 * n) := Nat.mod_eq_of_lt hd
    have hs := Nat.mod_add_div a (2 ^ (64 * n))
    have key : 2 ^ (64 * (n + 1)) - 1 - a = (2 ^ (64 * n) - 1 - a % 2 ^ (64 * n)) + 2 ^ (64 * n) * (2 ^ 64 - 1 - a / 2 ^ (64 * n)) := by
      rw [e1]
      generalize a / 2 ^ (64 * n) = q at *
      generalize a % 2 ^ (64 * n) = r at *
      generalize 2 ^ (64 * n) = P at *
      obtain ⟨k, hk⟩ : ∃ k, 2 ^ 64 = q + 1 + k := ⟨2 ^ 64 - (q + 1), by omega⟩
      rw [show 2 ^ 64 - 1 - q = k by omega, hk]
      have : P * (q + 1 + k) = P * q + P + P * k := by rw [Nat.mul_add, Nat.mul_add, Nat.mul_one]
      omega
    by_cases hin : i = n
    · subst hin
      rw [dgt, key, Nat.add_mul_div_left _ _ (Nat.two_pow_pos _), Nat.div_eq_of_lt (by omega), Nat.zero_add, hq, Nat.mod_eq_of_lt (by omega)]
    · rw [key, dgt_below 64 _ (2 ^ (64 * n) - 1 - a % 2 ^ (64 * n)) n i (by omega) (by rw [Nat.add_mul_mod_self_left]), ih (a % 2 ^ (64 * n)) i (by omega) hm, dgt_below 64 (a % 2 ^ (64 * n)) a n i (by omega) (Nat.mod_mod _ _)]

theorem not_all (a : Nat) (ha : a < W256) (k : IntKind) : rowN k 64 4 (notU a 4) = rowN k 64 4 (W256 - 1 - a) := by
  refine rowN_congr _ _ _ _ _ (mod_of_dgt _ _ _ _ fun i hi => ?_)
  rw [notU_dgt, if_pos hi, W256_eq, comp_dgt 4 a i hi (by rw [← W256_eq]; exact ha)]
end Go.Proofs.Ytgdnmmobnfjegaa
