/- Digits of 16 bits: sums, differences, products, halves. Nothing here speaks of the program. -/
import Derived.Test.YtgdnmmobnfjegaaWm
namespace Go.Proofs.Ytgdnmmobnfjegaa
set_option linter.unusedVariables false
set_option linter.unusedSimpArgs false

/-- 65536 to the power of i. -/
def pw (i : Nat) : Nat := 2 ^ (16 * i)
theorem pw_pos (i : Nat) : 0 < pw i := Nat.two_pow_pos _
theorem pw_zero : pw 0 = 1 := rfl
theorem pw_succ (i : Nat) : pw (i + 1) = pw i * 65536 := by
  unfold pw
  rw [show (65536 : Nat) = 2 ^ 16 from rfl, ← Nat.pow_add]; congr 1
theorem pw_add (i j : Nat) : pw (i + j) = pw i * pw j := by
  unfold pw
  rw [← Nat.pow_add]; congr 1; omega
theorem pw_le {i j : Nat} (h : i ≤ j) : pw i ≤ pw j := Nat.pow_le_pow_right (by omega) (by omega)
theorem pw_lt {i j : Nat} (h : pw i < pw j) : i < j := by
  refine Nat.lt_of_not_le fun hl => ?_
  have := pw_le hl
  omega
theorem dgt_pw (x i : Nat) : dgt 16 x i = x / pw i % 65536 := rfl
theorem d16_lt (x i : Nat) : dgt 16 x i < 65536 := dgt_lt 16 x i
theorem md_succ (x i : Nat) : x % pw (i + 1) = x % pw i + pw i * dgt 16 x i := mod_succ 16 x i
theorem dv_succ (x i : Nat) : x / pw i = 65536 * (x / pw (i + 1)) + dgt 16 x i := by
  rw [pw_succ, ← Nat.div_div_eq_div_mul, dgt_pw]
  omega

/-! ### the sum -/
def caC (x y i : Nat) : Nat := (x % pw i + y % pw i) / pw i
theorem caC_zero (x y : Nat) : caC x y 0 = 0 := by simp [caC, pw_zero, Nat.mod_one]
theorem caC_le (x y i : Nat) : caC x y i ≤ 1 := by
  have h1 := Nat.mod_lt x (pw_pos i)
  have h2 := Nat.mod_lt y (pw_pos i)
  have := (Nat.div_lt_iff_lt_mul (pw_pos i)).2 (show x % pw i + y % pw i < 2 * pw i by omega)
  unfold caC
  omega
theorem ca_step (x y i : Nat) : (caC x y i + dgt 16 x i + dgt 16 y i) % 65536 = dgt 16 (x + y) i ∧ (caC x y i + dgt 16 x i + dgt 16 y i) / 65536 = caC x y (i + 1) := by
  have hm := Nat.mod_add_div (x % pw i + y % pw i) (pw i)
  have hr := Nat.mod_lt (x % pw i + y % pw i) (pw_pos i)
  have hx := Nat.mod_add_div x (pw i)
  have hy := Nat.mod_add_div y (pw i)
  have hp := pw_pos i
  constructor
  · have e : x + y = (x % pw i + y % pw i) % pw i + pw i * (x / pw i + y / pw i + caC x y i) := by
      unfold caC
      rw [Nat.mul_add, Nat.mul_add]
      omega
    rw [dgt_pw (x + y), e, Nat.add_mul_div_left _ _ hp, Nat.div_eq_of_lt hr, dgt_pw, dgt_pw]
    omega
  · have e : x % pw (i + 1) + y % pw (i + 1) = (x % pw i + y % pw i) % pw i + pw i * (caC x y i + dgt 16 x i + dgt 16 y i) := by
      rw [md_succ, md_succ]
      unfold caC
      rw [Nat.mul_add, Nat.mul_add]
      omega
    show _ = (x % pw (i + 1) + y % pw (i + 1)) / pw (i + 1)
    rw [e, pw_succ, dv_at _ _ _ _ hr]
theorem ca_end {x y i : Nat} (hx : x < pw i) (hy : y < pw i) (h : caC x y i = 0) : x + y < pw i := by
  unfold caC at h
  rw [Nat.mod_eq_of_lt hx, Nat.mod_eq_of_lt hy] at h
  rcases Nat.lt_or_ge (x + y) (pw i) with h1 | h1
  · exact h1
  · have := Nat.div_pos h1 (pw_pos i); omega

/-! ### the difference -/
def bwC (x y i : Nat) : Nat := if x % pw i < y % pw i then 1 else 0
theorem bwC_zero (x y : Nat) : bwC x y 0 = 0 := by simp [bwC, pw_zero, Nat.mod_one]
theorem bwC_le (x y i : Nat) : bwC x y i ≤ 1 := by unfold bwC; split <;> omega
theorem bw_step (x y i : Nat) (h : y ≤ x) : (65536 + dgt 16 x i - dgt 16 y i - bwC x y i) % 65536 = dgt 16 (x - y) i ∧ 1 - (65536 + dgt 16 x i - dgt 16 y i - bwC x y i) / 65536 = bwC x y (i + 1) := by
  have hx := Nat.mod_add_div x (pw i)
  have hy := Nat.mod_add_div y (pw i)
  have hxr := Nat.mod_lt x (pw_pos i)
  have hyr := Nat.mod_lt y (pw_pos i)
  have hp := pw_pos i
  have l1 := d16_lt x i
  have l2 := d16_lt y i
  have hb : ∃ s, s < pw i ∧ x % pw i + pw i * bwC x y i = y % pw i + s := by
    unfold bwC
    split
    · exact ⟨x % pw i + pw i - y % pw i, by omega, by omega⟩
    · exact ⟨x % pw i - y % pw i, by omega, by omega⟩
  obtain ⟨s, hs, hbs⟩ := hb
  have hle := bwC_le x y i
  constructor
  · have hq : y / pw i + bwC x y i ≤ x / pw i := by
      refine Nat.le_of_not_lt fun hlt => ?_
      have := Nat.mul_le_mul_left (pw i) (show x / pw i + 1 ≤ y / pw i + bwC x y i from hlt)
      rw [Nat.mul_add, Nat.mul_add] at this
      omega
    have e : x - y = s + pw i * (x / pw i - y / pw i - bwC x y i) := by
      rw [Nat.mul_sub, Nat.mul_sub]
      have := Nat.mul_le_mul_left (pw i) hq
      rw [Nat.mul_add] at this
      omega
    rw [dgt_pw (x - y), e, Nat.add_mul_div_left _ _ hp, Nat.div_eq_of_lt hs, dgt_pw, dgt_pw]
    omega
  · rw [show bwC x y (i + 1) = if x % pw (i + 1) < y % pw (i + 1) then 1 else 0 from rfl, md_succ, md_succ]
    rcases Nat.lt_or_ge (dgt 16 x i) (dgt 16 y i + bwC x y i) with h1 | h1
    · have := Nat.mul_le_mul_left (pw i) (show dgt 16 x i + 1 ≤ dgt 16 y i + bwC x y i from h1)
      rw [Nat.mul_add, Nat.mul_add] at this
      rw [if_pos (by omega)]
      omega
    · have := Nat.mul_le_mul_left (pw i) h1
      rw [Nat.mul_add] at this
      rw [if_neg (by omega)]
      omega

/-! ### the product -/
theorem putw_at (V j r : Nat) : putw 16 V j r + pw j * dgt 16 V j = V + pw j * r := by
  have h1 := Nat.mod_add_div V (pw j)
  have h2 := dv_succ V j
  rw [h2, Nat.mul_add] at h1
  have e : putw 16 V j r = V % pw j + pw j * (r + 65536 * (V / pw (j + 1))) := rfl
  rw [e, Nat.mul_add]
  omega
/-- What is reckoned so far of a product. -/
def mlP (x y i d k : Nat) : Nat := x % pw i * y + d * (y % pw k) * pw i
theorem mlP_zero (x y i d : Nat) : mlP x y i d 0 = x % pw i * y := by simp [mlP, pw_zero, Nat.mod_one]
theorem mlP_succ (x y i d k : Nat) : mlP x y i d (k + 1) = mlP x y i d k + pw (i + k) * (d * dgt 16 y k) := by
  unfold mlP
  rw [md_succ, pw_add, Nat.mul_add, Nat.add_mul, Nat.add_assoc]
  congr 2
  ac_rfl
theorem mlP_all (x y i k : Nat) (h : y < pw k) : mlP x y i (dgt 16 x i) k = x % pw (i + 1) * y := by
  unfold mlP
  rw [md_succ, Nat.mod_eq_of_lt h, Nat.add_mul]
  congr 1
  ac_rfl
theorem ml_step' (x y i d k V c : Nat) (h : V + pw (i + k) * c = mlP x y i d k) :
    putw 16 V (i + k) ((c + dgt 16 V (i + k) + d * dgt 16 y k) % 65536) + pw (i + k + 1) * ((c + dgt 16 V (i + k) + d * dgt 16 y k) / 65536) = mlP x y i d (k + 1) := by
  have h1 := putw_at V (i + k) ((c + dgt 16 V (i + k) + d * dgt 16 y k) % 65536)
  rw [mlP_succ, ← h, pw_succ, Nat.mul_assoc]
  have h2 := Nat.mod_add_div (c + dgt 16 V (i + k) + d * dgt 16 y k) 65536
  generalize hs : c + dgt 16 V (i + k) + d * dgt 16 y k = s at *
  have h3 : pw (i + k) * (s % 65536) + pw (i + k) * (65536 * (s / 65536)) = pw (i + k) * c + pw (i + k) * dgt 16 V (i + k) + pw (i + k) * (d * dgt 16 y k) := by
    rw [← Nat.mul_add, h2, ← hs, Nat.mul_add, Nat.mul_add]
  omega
theorem ml_lt {c o d e : Nat} (hc : c < 65536) (ho : o < 65536) (hd : d < 65536) (he : e < 65536) : c + o + d * e < 4294967296 := by
  have := Nat.mul_le_mul (show d ≤ 65535 by omega) (show e ≤ 65535 by omega)
  omega
theorem ml_room {x y i k V c lb : Nat} (h : V + pw (i + k) * c = mlP x y i (dgt 16 x i) k) (hy : y < pw lb) (hk : lb ≤ k) (hc : 0 < c) : k ≤ lb := by
  rw [mlP_all _ _ _ _ (Nat.lt_of_lt_of_le hy (pw_le hk))] at h
  have h1 : x % pw (i + 1) * y < pw (i + 1) * pw lb := Nat.mul_lt_mul'' (Nat.mod_lt _ (pw_pos _)) hy
  have h2 : pw (i + k) * 1 ≤ pw (i + k) * c := Nat.mul_le_mul_left _ hc
  rw [← pw_add] at h1
  have := pw_lt (show pw (i + k) < pw (i + 1 + lb) by omega)
  omega

/-! ### halves -/
theorem half_step (x i V : Nat) (hV : V = pw (i + 1) * (x / pw (i + 1) / 2)) :
    putw 16 V i ((x / pw (i + 1) % 2 * 65536 + dgt 16 x i) / 2) = pw i * (x / pw i / 2) ∧ (x / pw (i + 1) % 2 * 65536 + dgt 16 x i) % 2 = x / pw i % 2 := by
  have h2 := dv_succ x i
  have hp := pw_pos i
  generalize x / pw (i + 1) = X at *
  have l := d16_lt x i
  generalize dgt 16 x i = d at *
  constructor
  · have e : putw 16 V i ((X % 2 * 65536 + d) / 2) = V % pw i + pw i * ((X % 2 * 65536 + d) / 2 + 65536 * (V / pw (i + 1))) := rfl
    have e1 : V % pw i = 0 := by rw [hV, pw_succ, Nat.mul_assoc, Nat.mul_mod_right]
    have e2 : V / pw (i + 1) = X / 2 := by rw [hV, Nat.mul_div_cancel_left _ (pw_pos _)]
    rw [e, e1, e2, Nat.zero_add, h2]
    congr 1
    omega
  · rw [h2]; omega
end Go.Proofs.Ytgdnmmobnfjegaa
