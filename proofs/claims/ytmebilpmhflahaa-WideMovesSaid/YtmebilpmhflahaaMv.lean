/- Layer 3's law WideMoves: what it reckons, bit by bit. -/
import Derived.Test.YtmebilpmhflahaaFb
import Derived.Test.YtmebilpmhflahaaRv
import Derived.Test.YtmebilpmhflahaaRi
import Derived.Test.YtmebilpmhflahaaUi
import Derived.Laws.CopyOwn
namespace Go.Proofs.Ytmebilpmhflahaa
set_option linter.unusedVariables false
set_option linter.unusedSimpArgs false
open Go.RowKit

theorem bit_high {a i : Nat} (ha : a < W256) (hi : 256 ≤ i) : dgt 1 a i = 0 := by
  have : a < 2 ^ i := Nat.lt_of_lt_of_le ha (Nat.pow_le_pow_right (by omega) hi)
  rw [dgt1, Nat.div_eq_of_lt this]
theorem bit_down (a m i : Nat) : dgt 1 (a / 2 ^ m) i = dgt 1 a (m + i) := by rw [dgt1, dgt1, Nat.div_div_eq_div_mul, ← Nat.pow_add]
theorem bit_mod (x i : Nat) (hi : i < 256) : dgt 1 (x % W256) i = dgt 1 x i := dgt_below 1 _ _ 256 i hi (by rw [Nat.one_mul]; exact Nat.mod_mod _ _)
theorem bit_up (a m i : Nat) : dgt 1 (a * 2 ^ m) i = if m ≤ i then dgt 1 a (i - m) else 0 := by
  split
  · rename_i h
    obtain ⟨d, rfl⟩ : ∃ d, i = m + d := ⟨i - m, by omega⟩
    rw [← bit_down, Nat.mul_div_cancel _ (Nat.two_pow_pos _), Nat.add_sub_cancel_left]
  · rename_i h
    obtain ⟨d, rfl⟩ : ∃ d, m = i + (d + 1) := ⟨m - i - 1, by omega⟩
    rw [dgt1, Nat.pow_add, Nat.mul_comm (2 ^ i), ← Nat.mul_assoc, Nat.mul_div_cancel _ (Nat.two_pow_pos _), Nat.pow_succ, ← Nat.mul_assoc, Nat.mul_mod_left]

/-- Each bit of a number that was moved up by n. -/
theorem up_bit (a : Nat) (n : Int) (i : Nat) (ha : a < W256) (hi : i < 256) :
    (-256 < n ∧ n < 256 → 0 ≤ (i : Int) - n → (i : Int) - n < 256 → dgt 1 (upBy a n) i = dgt 1 a ((i : Int) - n).toNat) ∧
    (-256 < n ∧ n < 256 → ¬ (0 ≤ (i : Int) - n ∧ (i : Int) - n < 256) → dgt 1 (upBy a n) i = 0) ∧
    (¬ (-256 < n ∧ n < 256) → upBy a n = 0) := by
  unfold upBy
  by_cases h0 : n < 0
  · obtain ⟨m, hm⟩ := Int.eq_ofNat_of_zero_le (show 0 ≤ -n by omega)
    rw [if_pos h0]
    refine ⟨fun h1 h2 h3 => ?_, fun h1 h2 => ?_, fun h1 => if_neg (by omega)⟩
    · rw [if_pos (by omega), bit_down]
      congr 1
      omega
    · rw [if_pos (by omega), bit_down]
      exact bit_high ha (by omega)
  · obtain ⟨m, rfl⟩ := Int.eq_ofNat_of_zero_le (show 0 ≤ n by omega)
    rw [if_neg h0]
    refine ⟨fun h1 h2 h3 => ?_, fun h1 h2 => ?_, fun h1 => if_neg (by omega)⟩
    · rw [if_pos (by omega), bit_mod _ _ hi, Int.toNat_natCast, bit_up, if_pos (by omega)]
      congr 1
      omega
    · rw [if_pos (by omega), bit_mod _ _ hi, Int.toNat_natCast, bit_up, if_neg (by omega)]

theorem not_bit (a i : Nat) (ha : a < W256) (hi : i < 256) : dgt 1 (W256 - 1 - a) i = 1 - dgt 1 a i := by
  have h := Nat.testBit_two_pow_sub_succ (x := a) (n := 256) ha i
  rw [dgt1, dgt1]
  rw [Nat.testBit_eq_decide_div_mod_eq, Nat.testBit_eq_decide_div_mod_eq, decide_eq_true hi, Bool.true_and] at h
  have e : W256 - 1 - a = 2 ^ 256 - (a + 1) := by rw [Nat.sub_sub, Nat.add_comm 1 a]; rfl
  rw [e]
  generalize (2 ^ 256 - (a + 1)) / 2 ^ i = x at *
  generalize a / 2 ^ i = y at *
  have h1 := Nat.mod_two_eq_zero_or_one x
  have h2 := Nat.mod_two_eq_zero_or_one y
  rcases h1 with h1 | h1 <;> rcases h2 with h2 | h2 <;> rw [h1, h2] at h ⊢ <;> simp at h <;> rfl

theorem upBy_lt (a : Nat) (n : Int) (ha : a < W256) : upBy a n < W256 := by
  have hp := W256_pos
  unfold upBy
  split
  · split
    · exact Nat.lt_of_le_of_lt (Nat.div_le_self _ _) ha
    · exact hp
  · split
    · exact Nat.mod_lt _ hp
    · exact hp

/-- The next bit, put: stored, or left at 0. -/
theorem bit_put (x i : Nat) : putw 1 (x % 2 ^ i) i (dgt 1 x i) = x % 2 ^ (i + 1) := by
  have := low_put 1 x i
  rwa [Nat.one_mul, Nat.one_mul] at this
theorem bit_left (x i : Nat) (h : dgt 1 x i = 0) : x % 2 ^ (i + 1) = x % 2 ^ i := by
  have := mod_succ 1 x i
  rw [Nat.one_mul, Nat.one_mul, h, Nat.mul_zero, Nat.add_zero] at this
  exact this
theorem bit_two (x i : Nat) : dgt 1 x i < 2 := dgt_lt 1 x i

/-- A number's byte, bit by bit. -/
theorem byte_bit (a i k : Nat) (hk : k < 8) : dgt 8 a i / 2 ^ k % 2 = dgt 1 a (8 * i + k) := by
  have := dgt_in 1 8 a i k hk
  rw [dgt1] at this
  exact this

/-- A row of bits, read as bits. -/
theorem row_bits (V : Nat) : (List.range 256).map (fun i => Value.int .u64 (dgt 1 V i : Nat)) = (bs 256 V).map U64 := by
  simp [bs, U64]

theorem copied (n V : Nat) (hn : n ≤ 256) (hV : V < 2 ^ n) : (splice (rowN .u64 1 256 0).toList 0 ((bs n V).map U64)).toArray = rowN .u64 1 256 V := by
  have e : splice (rowN .u64 1 256 0).toList 0 ((bs n V).map U64) = (bs n V).map U64 ++ ((List.range 256).map fun i => Value.int .u64 (dgt 1 0 i : Nat)).drop n := by
    unfold splice rowN
    rw [List.take_zero, List.nil_append, List.length_map, bs_length, Nat.zero_add]
  rw [e]
  unfold rowN
  congr 1
  apply List.ext_getElem?
  intro j
  have hl : ((bs n V).map U64).length = n := by rw [List.length_map, bs_length]
  by_cases hjn : j < n
  · rw [List.getElem?_append_left (by omega)]
    simp [bs, U64, hjn, show j < 256 by omega]
  · rw [List.getElem?_append_right (by omega), hl, List.getElem?_drop, show n + (j - n) = j by omega]
    by_cases hj : j < 256
    · have h0 : dgt 1 V j = 0 := by
        have : V < 2 ^ j := Nat.lt_of_lt_of_le hV (Nat.pow_le_pow_right (by omega) (by omega))
        rw [dgt1, Nat.div_eq_of_lt this]
      simp only [List.getElem?_map, List.getElem?_range hj, Option.map_some, h0]
      rw [dgt1, Nat.zero_div]
    · rw [List.getElem?_eq_none (by simp; omega), List.getElem?_eq_none (by simp; omega)]
end Go.Proofs.Ytmebilpmhflahaa
