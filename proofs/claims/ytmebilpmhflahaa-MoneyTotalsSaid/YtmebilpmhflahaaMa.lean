/- Layer 4 (money): what is right, sums, differences. -/
import Derived.Test.YtmebilpmhflahaaUi
namespace Go.Proofs.Ytmebilpmhflahaa
set_option linter.unusedVariables false
set_option linter.unusedSimpArgs false
open Go.RowKit

theorem aRight_any (x : Nat) (o : Bool) (ho : decide (x ≤ 4611686018427387904) = o) (w : World) :
    Calls Try.prog 27 #[.int .u64 (x : Int)] w fun e w' => e = .returned (.bool o) ∧ w' = w := by
  cases o
  · have l1 : ¬ (x : Int) ≤ 4611686018427387904 := by have := of_decide_eq_false ho; omega
    clear ho
    go_enter Try.func27, Try.ntmps27
    go_wp2
    go_ret
    exact ⟨rfl, rfl⟩
  · have l1 : (x : Int) ≤ 4611686018427387904 := by have := of_decide_eq_true ho; omega
    clear ho
    go_enter Try.func27, Try.ntmps27
    go_wp2
    go_ret
    exact ⟨rfl, rfl⟩

/-- What a sum of amounts is, and what is told beside it. -/
def adV (a b : Nat) : Nat := if a ≤ 4611686018427387904 ∧ b ≤ 4611686018427387904 ∧ a + b ≤ 4611686018427387904 then a + b else 0
def adE (a b : Nat) : Int := if a ≤ 4611686018427387904 ∧ b ≤ 4611686018427387904 then (if a + b ≤ 4611686018427387904 then 0 else 4) else 1
def sbV (a b : Nat) : Nat := if a ≤ 4611686018427387904 ∧ b ≤ 4611686018427387904 ∧ b ≤ a then a - b else 0
def sbE (a b : Nat) : Int := if a ≤ 4611686018427387904 ∧ b ≤ 4611686018427387904 then (if b ≤ a then 0 else 16) else 1

set_option maxHeartbeats 2000000 in
theorem aAdd_any (a b : Nat) (ha : a < 18446744073709551616) (hb : b < 18446744073709551616) (w : World) :
    Calls Try.prog 25 #[.int .u64 (a : Int), .int .u64 (b : Int)] w fun e w' => e = .returned (.tuple #[.int .u64 (adV a b : Nat), .int .i64 (adE a b)]) ∧ Fr F0 w w' := by
  by_cases h1 : a ≤ 4611686018427387904
  · have HA := Lib.hid (aRight_any a true (decide_eq_true h1))
    by_cases h2 : b ≤ 4611686018427387904
    · have HB := Lib.hid (aRight_any b true (decide_eq_true h2))
      have hw : IntKind.u64.wrap ((a : Int) + (b : Int)) = ((a + b : Nat) : Int) := by rw [IntWalk.u64_in _ (by omega)]; omega
      by_cases h3 : a + b ≤ 4611686018427387904
      · have ev : adV a b = a + b := if_pos ⟨h1, h2, h3⟩
        have ee : adE a b = 0 := by unfold adE; rw [if_pos ⟨h1, h2⟩, if_pos h3]
        rw [ev, ee]
        have HC := Lib.hid (aRight_any (a + b) true (decide_eq_true h3))
        generalize a + b = s at *
        clear ev ee h1 h2 h3 ha hb
        go_enter Try.func25, Try.ntmps25
        go_wp2_with fail
        (with_reducible refine (HA.out _).mono ?_); rintro e w1 ⟨rfl, rfl⟩
        go_wp2_with fail
        (with_reducible refine (HB.out _).mono ?_); rintro e w1 ⟨rfl, rfl⟩
        go_wp2_with fail
        (with_reducible refine (HC.out _).mono ?_); rintro e w1 ⟨rfl, rfl⟩
        go_wp2_with fail
        go_ret2
        exact ⟨rfl, Fr.refl _ _⟩
      · have ev : adV a b = 0 := if_neg fun h => h3 h.2.2
        have ee : adE a b = 4 := by unfold adE; rw [if_pos ⟨h1, h2⟩, if_neg h3]
        rw [ev, ee]
        have HC := Lib.hid (aRight_any (a + b) false (decide_eq_false h3))
        generalize a + b = s at *
        clear ev ee h1 h2 h3 ha hb
        go_enter Try.func25, Try.ntmps25
        go_wp2_with fail
        (with_reducible refine (HA.out _).mono ?_); rintro e w1 ⟨rfl, rfl⟩
        go_wp2_with fail
        (with_reducible refine (HB.out _).mono ?_); rintro e w1 ⟨rfl, rfl⟩
        go_wp2_with fail
        (with_reducible refine (HC.out _).mono ?_); rintro e w1 ⟨rfl, rfl⟩
        go_wp2_with fail
        go_ret2
        exact ⟨rfl, Fr.refl _ _⟩
    · have HB := Lib.hid (aRight_any b false (decide_eq_false h2))
      have ev : adV a b = 0 := if_neg fun h => h2 h.2.1
      have ee : adE a b = 1 := if_neg fun h => h2 h.2
      rw [ev, ee]
      clear ev ee h1 h2 ha hb
      go_enter Try.func25, Try.ntmps25
      go_wp2_with fail
      (with_reducible refine (HA.out _).mono ?_); rintro e w1 ⟨rfl, rfl⟩
      go_wp2_with fail
      (with_reducible refine (HB.out _).mono ?_); rintro e w1 ⟨rfl, rfl⟩
      go_wp2_with fail
      go_ret2
      exact ⟨rfl, Fr.refl _ _⟩
  · have HA := Lib.hid (aRight_any a false (decide_eq_false h1))
    have ev : adV a b = 0 := if_neg fun h => h1 h.1
    have ee : adE a b = 1 := if_neg fun h => h1 h.1
    rw [ev, ee]
    clear ev ee h1 ha hb
    go_enter Try.func25, Try.ntmps25
    go_wp2_with fail
    (with_reducible refine (HA.out _).mono ?_); rintro e w1 ⟨rfl, rfl⟩
    go_wp2_with fail
    go_ret2
    exact ⟨rfl, Fr.refl _ _⟩

set_option maxHeartbeats 2000000 in
theorem aSub_any (a b : Nat) (ha : a < 18446744073709551616) (hb : b < 18446744073709551616) (w : World) :
    Calls Try.prog 26 #[.int .u64 (a : Int), .int .u64 (b : Int)] w fun e w' => e = .returned (.tuple #[.int .u64 (sbV a b : Nat), .int .i64 (sbE a b)]) ∧ Fr F0 w w' := by
  by_cases h1 : a ≤ 4611686018427387904
  · have HA := Lib.hid (aRight_any a true (decide_eq_true h1))
    by_cases h2 : b ≤ 4611686018427387904
    · have HB := Lib.hid (aRight_any b true (decide_eq_true h2))
      by_cases h3 : b ≤ a
      · have hw : IntKind.u64.wrap ((a : Int) - (b : Int)) = ((a - b : Nat) : Int) := by rw [IntWalk.u64_in _ (by omega)]; omega
        have l1 : ¬ (a : Int) < (b : Int) := by omega
        have ev : sbV a b = a - b := if_pos ⟨h1, h2, h3⟩
        have ee : sbE a b = 0 := by unfold sbE; rw [if_pos ⟨h1, h2⟩, if_pos h3]
        rw [ev, ee]
        generalize a - b = s at *
        clear ev ee h1 h2 h3 ha hb
        go_enter Try.func26, Try.ntmps26
        go_wp2_with fail
        (with_reducible refine (HA.out _).mono ?_); rintro e w1 ⟨rfl, rfl⟩
        go_wp2_with fail
        (with_reducible refine (HB.out _).mono ?_); rintro e w1 ⟨rfl, rfl⟩
        go_wp2_with fail
        go_ret2
        exact ⟨rfl, Fr.refl _ _⟩
      · have l1 : (a : Int) < (b : Int) := by omega
        have ev : sbV a b = 0 := if_neg fun h => h3 h.2.2
        have ee : sbE a b = 16 := by unfold sbE; rw [if_pos ⟨h1, h2⟩, if_neg h3]
        rw [ev, ee]
        clear ev ee h1 h2 h3 ha hb
        go_enter Try.func26, Try.ntmps26
        go_wp2_with fail
        (with_reducible refine (HA.out _).mono ?_); rintro e w1 ⟨rfl, rfl⟩
        go_wp2_with fail
        (with_reducible refine (HB.out _).mono ?_); rintro e w1 ⟨rfl, rfl⟩
        go_wp2_with fail
        go_ret2
        exact ⟨rfl, Fr.refl _ _⟩
    · have HB := Lib.hid (aRight_any b false (decide_eq_false h2))
      have ev : sbV a b = 0 := if_neg fun h => h2 h.2.1
      have ee : sbE a b = 1 := if_neg fun h => h2 h.2
      rw [ev, ee]
      clear ev ee h1 h2 ha hb
      go_enter Try.func26, Try.ntmps26
      go_wp2_with fail
      (with_reducible refine (HA.out _).mono ?_); rintro e w1 ⟨rfl, rfl⟩
      go_wp2_with fail
      (with_reducible refine (HB.out _).mono ?_); rintro e w1 ⟨rfl, rfl⟩
      go_wp2_with fail
      go_ret2
      exact ⟨rfl, Fr.refl _ _⟩
  · have HA := Lib.hid (aRight_any a false (decide_eq_false h1))
    have ev : sbV a b = 0 := if_neg fun h => h1 h.1
    have ee : sbE a b = 1 := if_neg fun h => h1 h.1
    rw [ev, ee]
    clear ev ee h1 ha hb
    go_enter Try.func26, Try.ntmps26
    go_wp2_with fail
    (with_reducible refine (HA.out _).mono ?_); rintro e w1 ⟨rfl, rfl⟩
    go_wp2_with fail
    go_ret2
    exact ⟨rfl, Fr.refl _ _⟩
end Go.Proofs.Ytmebilpmhflahaa
