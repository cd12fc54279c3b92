/- Decimal numerals: what they stand for, and that each number has one. -/
import Derived.Test.YtmebilpmhflahaaDoorFr
import Derived.Lib.ItoaNum
import Derived.Lib.ItoaLen
namespace Go.Proofs.YtmebilpmhflahaaDoor
set_option linter.unusedVariables false
set_option linter.unusedSimpArgs false
open Go.RowKit

/-- A digit. -/
def dg1 (c : UInt8) : Bool := decide (48 ≤ c.toNat) && decide (c.toNat ≤ 57)
def headOk (l : List UInt8) : Bool := decide (0 < l.length) && (decide (l.length = 1) || decide ((l.getD 0 0).toNat ≠ 48))
/-- A numeral: digits, no zero ahead of others. -/
def isNum (l : List UInt8) : Bool := headOk l && l.all dg1
/-- The number that digits stand for. -/
def nval (l : List UInt8) : Nat := l.foldl (fun a c => a * 10 + (c.toNat - 48)) 0

theorem len_pos {l : List UInt8} (h : l ≠ []) : 0 < l.length := List.length_pos_iff.2 h

theorem nval_snoc (l : List UInt8) (c : UInt8) : nval (l ++ [c]) = nval l * 10 + (c.toNat - 48) := by simp [nval]
theorem nval_append (l m : List UInt8) : nval l ≤ nval (l ++ m) := by
  induction m generalizing l with
  | nil => simp
  | cons c m ih =>
    have h := ih (l ++ [c])
    rw [nval_snoc, List.append_assoc, List.singleton_append] at h
    omega
theorem nval_take (l : List UInt8) (k : Nat) : nval (l.take k) ≤ nval l := by
  have h := nval_append (l.take k) (l.drop k)
  rwa [List.take_append_drop] at h
theorem take_snoc (l : List UInt8) (k : Nat) (hk : k < l.length) : l.take (k + 1) = l.take k ++ [l.getD k 0] := by
  rw [List.take_succ_eq_append_getElem hk]
  simp [List.getD, List.getElem?_eq_getElem hk]
theorem nval_take_succ (l : List UInt8) (k : Nat) (hk : k < l.length) : nval (l.take (k + 1)) = nval (l.take k) * 10 + ((l.getD k 0).toNat - 48) := by
  rw [take_snoc l k hk, nval_snoc]
theorem all_take_succ (l : List UInt8) (k : Nat) (hk : k < l.length) : (l.take (k + 1)).all dg1 = ((l.take k).all dg1 && dg1 (l.getD k 0)) := by
  rw [take_snoc l k hk, List.all_append]
  simp
theorem all_of_not (l : List UInt8) (k : Nat) (hk : k < l.length) (h : dg1 (l.getD k 0) = false) : l.all dg1 = false := by
  have h1 := all_take_succ l k hk
  rw [h, Bool.and_false] at h1
  have h2 : l.all dg1 = ((l.take (k + 1)).all dg1 && (l.drop (k + 1)).all dg1) := by
    rw [← List.all_append, List.take_append_drop]
  rw [h2, h1, Bool.false_and]

theorem u8_digit (d : Nat) (h : d < 10) : (UInt8.ofNat (48 + d)).toNat = 48 + d := by
  rw [UInt8.toNat_ofNat']
  omega
theorem dg1_digit (d : Nat) (h : d < 10) : dg1 (UInt8.ofNat (48 + d)) = true := by
  unfold dg1
  rw [u8_digit d h, decide_eq_true (by omega), decide_eq_true (by omega)]
  rfl
theorem dg1_of {c : UInt8} (h : dg1 c = true) : 48 ≤ c.toNat ∧ c.toNat ≤ 57 := by
  unfold dg1 at h
  rw [Bool.and_eq_true] at h
  exact ⟨of_decide_eq_true h.1, of_decide_eq_true h.2⟩
theorem dg1_ofNat {c : UInt8} (h : dg1 c = true) : UInt8.ofNat (48 + (c.toNat - 48)) = c := by
  have h1 := dg1_of h
  rw [show 48 + (c.toNat - 48) = c.toNat by omega, UInt8.ofNat_toNat]

theorem dec_ne (x : Nat) : Lib.decDigits x ≠ [] := by
  rw [Lib.decDigits]
  split <;> simp
theorem getD_head (l m : List UInt8) (h : l ≠ []) : (l ++ m).getD 0 0 = l.getD 0 0 := by
  cases l with
  | nil => exact absurd rfl h
  | cons a l => rfl
theorem dec_head : ∀ (n x : Nat), x ≤ n → 0 < x → ((Lib.decDigits x).getD 0 0).toNat ≠ 48
  | n, x, hn, h0 => by
    rw [Lib.decDigits]
    by_cases h : x < 10
    · rw [dif_pos h]
      show (UInt8.ofNat (48 + x)).toNat ≠ 48
      rw [u8_digit x h]
      omega
    · rw [dif_neg h, getD_head _ _ (dec_ne _)]
      match n with
      | 0 => omega
      | n + 1 => exact dec_head n (x / 10) (by omega) (by omega)
theorem dec_all : ∀ (n x : Nat), x ≤ n → (Lib.decDigits x).all dg1 = true
  | n, x, hn => by
    rw [Lib.decDigits]
    by_cases h : x < 10
    · rw [dif_pos h]
      rw [List.all_cons, List.all_nil, dg1_digit x h]; rfl
    · rw [dif_neg h, List.all_append]
      match n with
      | 0 => omega
      | n + 1 =>
        rw [dec_all n (x / 10) (by omega)]
        rw [List.all_cons, List.all_nil, dg1_digit (x % 10) (by omega)]; rfl
theorem nval_dec : ∀ (n x : Nat), x ≤ n → nval (Lib.decDigits x) = x
  | n, x, hn => by
    rw [Lib.decDigits]
    by_cases h : x < 10
    · rw [dif_pos h]
      show 0 * 10 + ((UInt8.ofNat (48 + x)).toNat - 48) = x
      rw [u8_digit x h]
      omega
    · rw [dif_neg h, nval_snoc, u8_digit _ (by omega)]
      match n with
      | 0 => omega
      | n + 1 =>
        rw [nval_dec n (x / 10) (by omega)]
        omega
theorem isNum_dec (x : Nat) : isNum (Lib.decDigits x) = true := by
  unfold isNum headOk
  rw [dec_all x x (Nat.le_refl _), Bool.and_true]
  have h1 : 0 < (Lib.decDigits x).length := len_pos (dec_ne x)
  rw [decide_eq_true h1, Bool.true_and]
  by_cases h : x = 0
  · subst h
    rw [Lib.decDigits, dif_pos (by omega)]
    rfl
  · rw [decide_eq_true (dec_head x x (Nat.le_refl _) (by omega)), Bool.or_true]

theorem headOk_init (l : List UInt8) (c : UInt8) (hl : l ≠ []) (h : headOk (l ++ [c]) = true) : (l.getD 0 0).toNat ≠ 48 := by
  unfold headOk at h
  rw [Bool.and_eq_true, Bool.or_eq_true, getD_head l [c] hl] at h
  rcases h.2 with h1 | h1
  · have h2 := of_decide_eq_true h1
    have h3 := len_pos hl
    simp at h2
    exact absurd h2 hl
  · exact of_decide_eq_true h1

/-- A numeral is the numeral of its number. -/
theorem dec_nval : ∀ (n : Nat) (l : List UInt8), l.length = n → isNum l = true → Lib.decDigits (nval l) = l
  | 0, l, hn, h => by
    obtain rfl := List.eq_nil_of_length_eq_zero hn
    cases h
  | n + 1, l, hn, h => by
    obtain ⟨m, c, rfl⟩ : ∃ m c, l = m ++ [c] := ⟨l.dropLast, l.getLast (by intro e; subst e; cases hn), (List.dropLast_concat_getLast _).symm⟩
    have hm : m.length = n := by simpa using hn
    have h0 := h
    unfold isNum at h0
    rw [Bool.and_eq_true, List.all_append, Bool.and_eq_true] at h0
    obtain ⟨hh, ha, hc⟩ := h0
    have hc1 : dg1 c = true := by simpa using hc
    have hcr := dg1_of hc1
    rw [nval_snoc]
    by_cases h1 : m = []
    · subst h1
      rw [show nval [] = 0 from rfl, Lib.decDigits, dif_pos (by omega), Nat.zero_mul, Nat.zero_add, dg1_ofNat hc1, List.nil_append]
    · have hh1 := headOk_init m c h1 hh
      have hmn : isNum m = true := by
        unfold isNum headOk
        rw [ha, decide_eq_true (len_pos h1), decide_eq_true hh1, Bool.or_true]
        rfl
      have ih := dec_nval n m hm hmn
      have hpos : 0 < nval m := by
        rcases Nat.eq_zero_or_pos (nval m) with e | e
        · rw [e, Lib.decDigits, dif_pos (by omega)] at ih
          rw [← ih] at hh1
          exact absurd rfl hh1
        · exact e
      rw [Lib.decDigits, dif_neg (by omega), show (nval m * 10 + (c.toNat - 48)) / 10 = nval m by omega, show (nval m * 10 + (c.toNat - 48)) % 10 = c.toNat - 48 by omega, ih, dg1_ofNat hc1]

theorem dec_len (x : Nat) (hx : x < 18446744073709551616) : (Lib.decDigits x).length ≤ 20 := by
  rw [Lib.decDigits_length]
  exact Lib.nDigits_le20 x hx

/-- What is read from digits, and what is told beside it. -/
def rdV (l : List UInt8) : Nat := if isNum l = true then (if nval l ≤ 4611686018427387904 then nval l else 0) else 0
def rdE (l : List UInt8) : Int := if isNum l = true then (if nval l ≤ 4611686018427387904 then 0 else 4) else 2
end Go.Proofs.YtmebilpmhflahaaDoor
