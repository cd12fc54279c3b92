/- Layer 5's law RateOrder, walked. -/
import Derived.Test.YtdmlopffdalhgaaEd
namespace Go.Proofs.Ytdmlopffdalhgaa
set_option linter.unusedVariables false
set_option linter.unusedSimpArgs false
open Go.RowKit

theorem enP_order {a b p t a2 b2 p2 t2 : Nat} (h : enP a b p t) (ha : a ≤ a2) (ha2 : a2 ≤ 4611686018427387904) (hb : b2 ≤ b) (hp : p2 ≤ p) (hp2 : 1 ≤ p2) (ht : t2 ≤ t) (ht2 : 1 ≤ t2) : enP a2 b2 p2 t2 := by
  obtain ⟨⟨⟨⟨h1, h2⟩, h3, h4⟩, h5, h6⟩, h7⟩ := h
  refine ⟨⟨⟨⟨hp2, by omega⟩, ht2, by omega⟩, ha2, by omega⟩, ?_⟩
  have e1 : b2 * p2 * t2 ≤ b * p * t := Nat.mul_le_mul (Nat.mul_le_mul hb hp) ht
  have e2 : a * 100000000 * 1000 ≤ a2 * 100000000 * 1000 := Nat.mul_le_mul_right _ (Nat.mul_le_mul_right _ ha)
  omega

theorem min_is (x y z : Nat) (h : min x y = z) : (if (y : Int) < (x : Int) then (y : Int) else (x : Int)) = (z : Int) := by split <;> omega
theorem max_is (x y z : Nat) (h : max x y = z) : (if (x : Int) < (y : Int) then (y : Int) else (x : Int)) = (z : Int) := by split <;> omega
theorem run_min_is (ts : Array TypeId) (t : TypeId) (x y z : Nat) (h : min x y = z) (w : World) : (Builtin.min_ ts t #[.int .u64 (x : Int), .int .u64 (y : Int)]).run Try.prog w = .ok (.int .u64 (z : Int)) w := by rw [run_min_int2, min_is x y z h]
theorem run_max_is (ts : Array TypeId) (t : TypeId) (x y z : Nat) (h : max x y = z) (w : World) : (Builtin.max_ ts t #[.int .u64 (x : Int), .int .u64 (y : Int)]).run Try.prog w = .ok (.int .u64 (z : Int)) w := by rw [run_max_int2, max_is x y z h]

set_option maxHeartbeats 4000000 in
theorem rateOrder_any (a b m f p q t u : Nat) (ha : a < 18446744073709551616) (hb : b < 18446744073709551616) (hm : m < 18446744073709551616) (hf : f < 18446744073709551616) (hp : p < 18446744073709551616) (hq : q < 18446744073709551616) (ht : t < 18446744073709551616) (hu : u < 18446744073709551616) (w : World) :
    Calls Try.prog 6 #[.int .u64 (a : Int), .int .u64 (b : Int), .int .u64 (m : Int), .int .u64 (f : Int), .int .u64 (p : Int), .int .u64 (q : Int), .int .u64 (t : Int), .int .u64 (u : Int)] w fun e w' => e = .returned (.bool true) ∧ Fr F0 w w' := by
  have HL := Lib.hid lives05_any
  by_cases h : enP a b p t
  · have H1 := Lib.hid (eEnough_any a b p t ha hb true (decide_eq_true h))
    have hr := h.1
    unfold riP at hr
    have H2 := Lib.hid (eEnough_any (max a (min m 4611686018427387904)) (min b f) (max 1 (min p q)) (max 1 (min t u)) (by omega) (by omega) true (decide_eq_true (enP_order h (by omega) (by omega) (by omega) (by omega) (by omega) (by omega) (by omega))))
    clear h hr
    obtain ⟨n1, h1⟩ : ∃ n, min m 4611686018427387904 = n := ⟨_, rfl⟩
    obtain ⟨n2, h2⟩ : ∃ n, min p q = n := ⟨_, rfl⟩
    obtain ⟨n3, h3⟩ : ∃ n, min t u = n := ⟨_, rfl⟩
    rw [h1, h2, h3] at H2
    obtain ⟨a2, h4⟩ : ∃ n, max a n1 = n := ⟨_, rfl⟩
    obtain ⟨b2, h5⟩ : ∃ n, min b f = n := ⟨_, rfl⟩
    obtain ⟨p2, h6⟩ : ∃ n, max 1 n2 = n := ⟨_, rfl⟩
    obtain ⟨t2, h7⟩ : ∃ n, max 1 n3 = n := ⟨_, rfl⟩
    rw [h4, h5, h6, h7] at H2
    have q1 := fun ts t w => show (Builtin.min_ ts t #[.int .u64 (m : Int), .int .u64 4611686018427387904]).run Try.prog w = _ from run_min_is ts t m 4611686018427387904 n1 h1 w
    have q2 := fun ts t w => run_min_is ts t p q n2 h2 w
    have q3 := fun ts ty w => run_min_is ts ty t u n3 h3 w
    have q4 := fun ts t w => run_max_is ts t a n1 a2 h4 w
    have q5 := fun ts t w => run_min_is ts t b f b2 h5 w
    have q6 := fun ts t w => show (Builtin.max_ ts t #[.int .u64 1, .int .u64 (n2 : Int)]).run Try.prog w = _ from run_max_is ts t 1 n2 p2 h6 w
    have q7 := fun ts t w => show (Builtin.max_ ts t #[.int .u64 1, .int .u64 (n3 : Int)]).run Try.prog w = _ from run_max_is ts t 1 n3 t2 h7 w
    clear h1 h2 h3 h4 h5 h6 h7 ha hb hm hf hp hq ht hu
    go_enter Try.func6, Try.ntmps6
    go_wp2_with fail
    (with_reducible refine (HL.out _).mono ?_); rintro e w1 ⟨rfl, F⟩
    go_wp2_with fail
    (with_reducible refine (H1.out _).mono ?_); rintro e w2 ⟨rfl, f1⟩
    replace F := F.trans' f1
    clear f1
    go_wp2_with fail
    (with_reducible refine (H2.out _).mono ?_); rintro e w3 ⟨rfl, f1⟩
    replace F := F.trans' f1
    clear f1
    go_wp2_with fail
    go_ret
    exact ⟨rfl, F⟩
  · have H1 := Lib.hid (eEnough_any a b p t ha hb false (decide_eq_false h))
    clear h
    go_enter Try.func6, Try.ntmps6
    go_wp2_with fail
    (with_reducible refine (HL.out _).mono ?_); rintro e w1 ⟨rfl, F⟩
    go_wp2_with fail
    (with_reducible refine (H1.out _).mono ?_); rintro e w2 ⟨rfl, f1⟩
    replace F := F.trans' f1
    clear f1
    go_wp2_with fail
    go_ret
    exact ⟨rfl, F⟩
end Go.Proofs.Ytdmlopffdalhgaa
