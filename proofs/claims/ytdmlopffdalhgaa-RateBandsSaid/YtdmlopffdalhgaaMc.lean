/- Layer 4 (money): parts; its fixed fact. -/
import Derived.Test.YtdmlopffdalhgaaMb
namespace Go.Proofs.Ytdmlopffdalhgaa
set_option linter.unusedVariables false
set_option linter.unusedSimpArgs false
open Go.RowKit

set_option maxRecDepth 100000 in
theorem aPart_val (a up by' : Nat) (more : Bool) (ha : a ≤ 4611686018427387904) (hup : up < 18446744073709551616) (hby : by' < 18446744073709551616) (hb : 0 < by') (w : World) :
    Calls Try.prog 23 #[.int .u64 (a : Int), .int .u64 (up : Int), .int .u64 (by' : Int), .bool more] w fun e w' => e = .returned (.tuple #[.int .u64 (ptV a up by' more : Nat), .int .i64 (ptE a up by' more)]) ∧ Fr F0 w w' := by
  have hx := prod_wide a up (by omega) (by omega)
  have hx1 := prod_room a up (by omega) (by omega)
  have hbw := word_wide by' (by omega)
  have hQ : a * up / by' + 1 < W256 := Nat.lt_of_le_of_lt (Nat.add_le_add_right (Nat.div_le_self _ _) 1) hx1
  have hRW : a * up % by' < W256 := Nat.lt_of_lt_of_le (Nat.mod_lt _ hb) (Nat.le_of_lt hbw)
  have h1W : 1 < W256 := by
    have : 2 ^ 1 ≤ W256 := Nat.pow_le_pow_right (by omega) (by omega)
    omega
  have hq : ptQ a up by' more < W256 := by
    unfold ptQ
    split <;> omega
  have e1 : (a * up / by' + 1) % W256 = a * up / by' + 1 := Nat.mod_eq_of_lt hQ
  have e2 : decide (W256 ≤ a * up / by' + 1) = false := decide_eq_false (by omega)
  refine aPart_core a up by' (a * up) (a * up / by') (a * up % by') (ptQ a up by' more) (if ptQ a up by' more < 18446744073709551616 then ptQ a up by' more else 0) _ _ (rowEq 256 (a * up % by') 0) (decide (ptQ a up by' more < 18446744073709551616)) _ more
    (Lib.hid (aRight_any a true (decide_eq_true ha)))
    (Lib.hid fun w => wProduct_any a up (by omega) (by omega) w)
    (Lib.hid fun w => wOf_any by' (by omega) w)
    (Lib.hid fun w => show Calls Try.prog 36 #[.int .u64 1] w _ from wOf_any 1 (by omega) w)
    (Lib.hid fun w => wDiv_any (a * up) by' hx hbw hb w)
    (Lib.hid fun w => by have := wAdd_any (a * up / by') 1 (by omega) h1W w; rwa [e1, e2] at this)
    rfl ?_ (Lib.hid fun w => wUint_any _ hq w) (Lib.hid fun w => aRight_any _ _ rfl w) ?_ ?_ w
  · rw [rowEq_of _ 0 hRW (by omega)]
    unfold ptQ
    by_cases hm : more = true ∧ a * up % by' ≠ 0
    · rw [if_pos hm, if_pos ⟨hm.1, decide_eq_false hm.2⟩]
    · rw [if_neg hm, if_neg fun h => hm ⟨h.1, of_decide_eq_false h.2⟩]
  · unfold ptV
    generalize ptQ a up by' more = q at *
    by_cases h1 : q ≤ 4611686018427387904
    · have h2 : q < 18446744073709551616 := by omega
      rw [if_pos h1, if_pos h2, decide_eq_true h2, decide_eq_true h1]; rfl
    · rw [if_neg h1]
      by_cases h2 : q < 18446744073709551616
      · rw [if_pos h2, decide_eq_true h2, decide_eq_false h1]; rfl
      · rw [if_neg h2, decide_eq_false h2]; rfl
  · unfold ptE
    generalize ptQ a up by' more = q at *
    by_cases h1 : q ≤ 4611686018427387904
    · have h2 : q < 18446744073709551616 := by omega
      rw [if_pos h1, if_pos h2, decide_eq_true h2, decide_eq_true h1]; rfl
    · rw [if_neg h1]
      by_cases h2 : q < 18446744073709551616
      · rw [if_pos h2, decide_eq_true h2, decide_eq_false h1]; rfl
      · rw [if_neg h2, decide_eq_false h2]; rfl

/-- What a part is, and what is told beside it. -/
def paV (a up by' : Nat) (more : Bool) : Nat := if a ≤ 4611686018427387904 ∧ 0 < by' then ptV a up by' more else 0
def paE (a up by' : Nat) (more : Bool) : Int := if a ≤ 4611686018427387904 then (if 0 < by' then ptE a up by' more else 5) else 1

theorem aPart_any (a up by' : Nat) (more : Bool) (hup : up < 18446744073709551616) (hby : by' < 18446744073709551616) (w : World) :
    Calls Try.prog 23 #[.int .u64 (a : Int), .int .u64 (up : Int), .int .u64 (by' : Int), .bool more] w fun e w' => e = .returned (.tuple #[.int .u64 (paV a up by' more : Nat), .int .i64 (paE a up by' more)]) ∧ Fr F0 w w' := by
  unfold paV paE
  by_cases ha : a ≤ 4611686018427387904
  · by_cases hb : 0 < by'
    · rw [if_pos ⟨ha, hb⟩, if_pos ha, if_pos hb]
      exact aPart_val a up by' more ha hup hby hb w
    · rw [if_neg fun h => hb h.2, if_pos ha, if_neg hb]
      exact aPart_zero a up by' more ha hup (by omega) w
  · rw [if_neg fun h => ha h.1, if_neg ha]
    exact aPart_arg a up by' more ha w

theorem paV_10f : paV 10 2 3 false = 6 := by decide
theorem paV_10t : paV 10 2 3 true = 7 := by decide
theorem paE_10f : paE 10 2 3 false = 0 := by decide
theorem paE_10t : paE 10 2 3 true = 0 := by decide