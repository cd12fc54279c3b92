/- Layer 4's law MoneySums, walked. -/
import Derived.Test.YtmebilpmhflahaaMc
namespace Go.Proofs.Ytmebilpmhflahaa
set_option linter.unusedVariables false
set_option linter.unusedSimpArgs false
open Go.RowKit

set_option maxRecDepth 100000 in
set_option maxHeartbeats 8000000 in
theorem moneySums_any (a b : Nat) (ha : a < 18446744073709551616) (hb : b < 18446744073709551616) (w : World) :
    Calls Try.prog 5 #[.int .u64 (a : Int), .int .u64 (b : Int)] w fun e w' => e = .returned (.bool true) ∧ Fr F0 w w' := by
  have HL := Lib.hid lives04_any
  have HA := Lib.hid (aAdd_any a b ha hb)
  have HS := Lib.hid (aSub_any a b ha hb)
  by_cases h1 : a ≤ 4611686018427387904
  · by_cases h2 : b ≤ 4611686018427387904
    · have l1 : ¬ (4611686018427387904 : Int) < (a : Int) := by omega
      have l2 : ¬ (4611686018427387904 : Int) < (b : Int) := by omega
      have hw1 : IntKind.u64.wrap (4611686018427387904 - (b : Int)) = 4611686018427387904 - (b : Int) := by rw [IntWalk.u64_in _ (by omega)]
      have hw2 : IntKind.u64.wrap ((a : Int) + (b : Int)) = ((a + b : Nat) : Int) := by rw [IntWalk.u64_in _ (by omega)]; omega
      by_cases h3 : a + b ≤ 4611686018427387904
      · have l3 : ¬ (4611686018427387904 : Int) - (b : Int) < (a : Int) := by omega
        have ev : adV a b = a + b := if_pos ⟨h1, h2, h3⟩
        have ee : adE a b = 0 := by unfold adE; rw [if_pos ⟨h1, h2⟩, if_pos h3]
        rw [ev, ee] at HA
        generalize a + b = s at *
        by_cases h4 : b ≤ a
        · have l4 : ¬ (a : Int) < (b : Int) := by omega
          have eu : sbV a b = a - b := if_pos ⟨h1, h2, h4⟩
          have ef : sbE a b = 0 := by unfold sbE; rw [if_pos ⟨h1, h2⟩, if_pos h4]
          rw [eu, ef] at HS
          have hw3 : IntKind.u64.wrap (((a - b : Nat) : Int) + (b : Int)) = (a : Int) := by rw [IntWalk.u64_in _ (by omega)]; omega
          generalize a - b = d at *
          clear ev ee eu ef h1 h2 h3 h4 ha hb
          go_enter Try.func5, Try.ntmps5
          go_wp2_with fail
          (with_reducible refine (HL.out _).mono ?_); rintro e w1 ⟨rfl, f1⟩
          go_wp2_with fail
          (with_reducible refine (HA.out _).mono ?_); rintro e w2 ⟨rfl, f2⟩
          go_wp2_with fail
          (with_reducible refine (HS.out _).mono ?_); rintro e w3 ⟨rfl, f3⟩
          have F := (f1.trans' f2).trans' f3
          clear f1 f2 f3
          go_wp2_with fail
          go_ret
          exact ⟨rfl, F⟩
        · have l4 : (a : Int) < (b : Int) := by omega
          have eu : sbV a b = 0 := if_neg fun h => h4 h.2.2
          have ef : sbE a b = 16 := by unfold sbE; rw [if_pos ⟨h1, h2⟩, if_neg h4]
          rw [eu, ef] at HS
          clear ev ee eu ef h1 h2 h3 h4 ha hb
          go_enter Try.func5, Try.ntmps5
          go_wp2_with fail
          (with_reducible refine (HL.out _).mono ?_); rintro e w1 ⟨rfl, f1⟩
          go_wp2_with fail
          (with_reducible refine (HA.out _).mono ?_); rintro e w2 ⟨rfl, f2⟩
          go_wp2_with fail
          (with_reducible refine (HS.out _).mono ?_); rintro e w3 ⟨rfl, f3⟩
          have F := (f1.trans' f2).trans' f3
          clear f1 f2 f3
          go_wp2_with fail
          go_ret
          exact ⟨rfl, F⟩
      · have l3 : (4611686018427387904 : Int) - (b : Int) < (a : Int) := by omega
        have ev : adV a b = 0 := if_neg fun h => h3 h.2.2
        have ee : adE a b = 4 := by unfold adE; rw [if_pos ⟨h1, h2⟩, if_neg h3]
        rw [ev, ee] at HA
        generalize a + b = s at *
        by_cases h4 : b ≤ a
        · have l4 : ¬ (a : Int) < (b : Int) := by omega
          have eu : sbV a b = a - b := if_pos ⟨h1, h2, h4⟩
          have ef : sbE a b = 0 := by unfold sbE; rw [if_pos ⟨h1, h2⟩, if_pos h4]
          rw [eu, ef] at HS
          have hw3 : IntKind.u64.wrap (((a - b : Nat) : Int) + (b : Int)) = (a : Int) := by rw [IntWalk.u64_in _ (by omega)]; omega
          generalize a - b = d at *
          clear ev ee eu ef h1 h2 h3 h4 ha hb
          go_enter Try.func5, Try.ntmps5
          go_wp2_with fail
          (with_reducible refine (HL.out _).mono ?_); rintro e w1 ⟨rfl, f1⟩
          go_wp2_with fail
          (with_reducible refine (HA.out _).mono ?_); rintro e w2 ⟨rfl, f2⟩
          go_wp2_with fail
          (with_reducible refine (HS.out _).mono ?_); rintro e w3 ⟨rfl, f3⟩
          have F := (f1.trans' f2).trans' f3
          clear f1 f2 f3
          go_wp2_with fail
          go_ret
          exact ⟨rfl, F⟩
        · have l4 : (a : Int) < (b : Int) := by omega
          have eu : sbV a b = 0 := if_neg fun h => h4 h.2.2
          have ef : sbE a b = 16 := by unfold sbE; rw [if_pos ⟨h1, h2⟩, if_neg h4]
          rw [eu, ef] at HS
          clear ev ee eu ef h1 h2 h3 h4 ha hb
          go_enter Try.func5, Try.ntmps5
          go_wp2_with fail
          (with_reducible refine (HL.out _).mono ?_); rintro e w1 ⟨rfl, f1⟩
          go_wp2_with fail
          (with_reducible refine (HA.out _).mono ?_); rintro e w2 ⟨rfl, f2⟩
          go_wp2_with fail
          (with_reducible refine (HS.out _).mono ?_); rintro e w3 ⟨rfl, f3⟩
          have F := (f1.trans' f2).trans' f3
          clear f1 f2 f3
          go_wp2_with fail
          go_ret
          exact ⟨rfl, F⟩
    · have l1 : ¬ (4611686018427387904 : Int) < (a : Int) := by omega
      have l2 : (4611686018427387904 : Int) < (b : Int) := by omega
      have l0 : (a : Int) ≤ 4611686018427387904 := by omega
      have ev : adV a b = 0 := if_neg fun h => h2 h.2.1
      have ee : adE a b = 1 := if_neg fun h => h2 h.2
      have eu : sbV a b = 0 := if_neg fun h => h2 h.2.1
      have ef : sbE a b = 1 := if_neg fun h => h2 h.2
      rw [ev, ee] at HA
      rw [eu, ef] at HS
      have HR := Lib.hid (aRight_any a true (decide_eq_true h1))
      clear ev ee eu ef h1 h2 ha hb
      go_enter Try.func5, Try.ntmps5
      go_wp2_with fail
      (with_reducible refine (HL.out _).mono ?_); rintro e w1 ⟨rfl, f1⟩
      go_wp2_with fail
      (with_reducible refine (HA.out _).mono ?_); rintro e w2 ⟨rfl, f2⟩
      go_wp2_with fail
      (with_reducible refine (HS.out _).mono ?_); rintro e w3 ⟨rfl, f3⟩
      have F := (f1.trans' f2).trans' f3
      clear f1 f2 f3
      go_wp2_with fail
      (with_reducible refine (HR.out _).mono ?_); rintro e w4 ⟨rfl, hw⟩; replace hw := hw.symm; subst hw
      go_wp2_with fail
      go_ret
      exact ⟨rfl, F⟩
  · have l1 : (4611686018427387904 : Int) < (a : Int) := by omega
    have l0 : ¬ (a : Int) ≤ 4611686018427387904 := by omega
    have ev : adV a b = 0 := if_neg fun h => h1 h.1
    have ee : adE a b = 1 := if_neg fun h => h1 h.1
    have eu : sbV a b = 0 := if_neg fun h => h1 h.1
    have ef : sbE a b = 1 := if_neg fun h => h1 h.1
    rw [ev, ee] at HA
    rw [eu, ef] at HS
    have HR := Lib.hid (aRight_any a false (decide_eq_false h1))
    clear ev ee eu ef h1 ha hb
    go_enter Try.func5, Try.ntmps5
    go_wp2_with fail
    (with_reducible refine (HL.out _).mono ?_); rintro e w1 ⟨rfl, f1⟩
    go_wp2_with fail
    (with_reducible refine (HA.out _).mono ?_); rintro e w2 ⟨rfl, f2⟩
    go_wp2_with fail
    (with_reducible refine (HS.out _).mono ?_); rintro e w3 ⟨rfl, f3⟩
    have F := (f1.trans' f2).trans' f3
    clear f1 f2 f3
    go_wp2_with fail
    (with_reducible refine (HR.out _).mono ?_); rintro e w4 ⟨rfl, hw⟩; replace hw := hw.symm; subst hw
    go_wp2_with fail
    go_ret
    refine ⟨?_, F⟩
    show Ending.returned (Value.bool (!decide ((a : Int) ≤ 4611686018427387904))) = _
    rw [decide_eq_false (Int.not_le.2 l1)]
    rfl
end Go.Proofs.Ytmebilpmhflahaa
