/- bytes.Equal, HasPrefix, HasSuffix, CutPrefix, CutSuffix. -/
import Derived.Test.YtigjoepoaahidaaCat
namespace Go.Proofs.Ytigjoepoaahidaa
set_option linter.unusedVariables false
set_option linter.unusedSimpArgs false
open Go.RowKit

theorem strOf_eqB (l m : List UInt8) : ((strOf l).toList == (strOf m).toList) = decide (l = m) := by rw [← beq_toListBytes, strOf_beq]
theorem bEqual_any (l k : List UInt8) (a b : Option Addr) (n m c d : Nat) (w : World) (h1 : Bs w a c l) (h2 : Bs w b d k) (hn : n = l.length) (hm : m = k.length) :
    Calls Try.prog 24 #[.slice a n c, .slice b m d] w fun e w' => e = .returned (.bool (decide (l = k))) ∧ w' = w := by
  have s1 := bs_str7 h1 hn
  have s2 := bs_str7 h2 hm
  have e := strOf_eqB l k
  generalize decide (l = k) = z at *
  clear h1 h2 hn hm
  go_enter Try.func24, Try.ntmps24
  go_wp2
  go_ret
  first | exact ⟨rfl, rfl⟩ | exact ⟨by simp [e], rfl⟩
set_option maxHeartbeats 4000000 in
theorem bHasPrefix_any (l k : List UInt8) (a b : Option Addr) (n m c d : Nat) (w : World) (h1 : Bs w a c l) (h2 : Bs w b d k) (hn : n = l.length) (hm : m = k.length) :
    Calls Try.prog 22 #[.slice a n c, .slice b m d] w fun e w' => e = .returned (.bool (decide (m ≤ n ∧ l.take m = k))) ∧ w' = w := by
  have hr := h1.room
  rw [← hn] at hr
  by_cases hl : m ≤ n
  · have H := Lib.hid (bEqual_any (l.take m) k a b m m c d w (h1.take m) h2 (by rw [List.length_take]; omega) hm)
    have e : decide (m ≤ n ∧ l.take m = k) = decide (l.take m = k) := by simp [hl]
    rw [e]
    have l1 : ¬ ((n : Int) < (m : Int)) := by omega
    have l2 : (m : Int) ≤ (n : Int) := by omega
    generalize decide (l.take m = k) = z at *
    have l3 : (m : Int) ≤ (c : Int) := by omega
    clear h1 h2 hn hm hr e hl
    go_enter Try.func22, Try.ntmps22
    go_wp2_with fail
    (with_reducible refine H.out.mono ?_); rintro e w1 ⟨rfl, rfl⟩
    go_wp2_with fail
    go_ret
    exact ⟨rfl, rfl⟩
  · have e : decide (m ≤ n ∧ l.take m = k) = false := decide_eq_false fun h => hl h.1
    rw [e]
    have l2 : ¬ (m : Int) ≤ (n : Int) := by omega
    clear h1 h2 hn hm hr e hl
    go_enter Try.func22, Try.ntmps22
    go_wp2
    go_ret
    exact ⟨rfl, rfl⟩
set_option maxHeartbeats 4000000 in
theorem bHasSuffix_any (l k : List UInt8) (a b : Option Addr) (n m c d : Nat) (w : World) (h1 : Bs w a c l) (h2 : Bs w b d k) (hn : n = l.length) (hm : m = k.length) :
    Calls Try.prog 23 #[.slice a n c, .slice b m d] w fun e w' => e = .returned (.bool (decide (m ≤ n ∧ l.drop (n - m) = k))) ∧ w' = w := by
  have hr := h1.room
  have hx := h1.most
  unfold maxLen at hx
  rw [← hn] at hr
  by_cases hl : m ≤ n
  · have H := Lib.hid (bEqual_any (l.drop (n - m)) k (cutA a c (n - m) 1) b (n - (n - m)) m (c - (n - m)) d w (h1.drop (n - m) (by omega)) h2 (by rw [List.length_drop]; omega) hm)
    have e : decide (m ≤ n ∧ l.drop (n - m) = k) = decide (l.drop (n - m) = k) := by simp [hl]
    rw [e]
    have l2 : (m : Int) ≤ (n : Int) := by omega
    have l4 : IntKind.i64.wrap ((n : Int) - (m : Int)) = ((n - m : Nat) : Int) := by rw [IntKind.wrap_i64]; omega
    have l5 : (0 : Int) ≤ ((n - m : Nat) : Int) := by omega
    have l6 : ((n - m : Nat) : Int) ≤ (n : Int) := by omega
    have l7 : (((n - m : Nat) : Int)).toNat = n - m := by omega
    generalize decide (l.drop (n - m) = k) = z at *
    generalize n - m = q at *
    clear h1 h2 hn hm hr e hl hx
    go_enter Try.func23, Try.ntmps23
    go_wp2_with fail
    (with_reducible refine H.out.mono ?_); rintro e w1 ⟨rfl, rfl⟩
    go_wp2_with fail
    go_ret
    exact ⟨rfl, rfl⟩
  · have e : decide (m ≤ n ∧ l.drop (n - m) = k) = false := decide_eq_false fun h => hl h.1
    rw [e]
    have l2 : ¬ (m : Int) ≤ (n : Int) := by omega
    clear h1 h2 hn hm hr e hl hx
    go_enter Try.func23, Try.ntmps23
    go_wp2
    go_ret
    exact ⟨rfl, rfl⟩
set_option maxHeartbeats 4000000 in
theorem bCutPrefix_any (l k : List UInt8) (a b : Option Addr) (n m c d : Nat) (w : World) (h1 : Bs w a c l) (h2 : Bs w b d k) (hn : n = l.length) (hm : m = k.length) :
    Calls Try.prog 19 #[.slice a n c, .slice b m d] w fun e w' => w' = w ∧ (m ≤ n ∧ l.take m = k → e = .returned (.tuple #[.slice (cutA a c m 1) (n - m) (c - m), .bool true])) ∧ (¬ (m ≤ n ∧ l.take m = k) → e = .returned (.tuple #[.slice a n c, .bool false])) := by
  have H := Lib.hid (bHasPrefix_any l k a b n m c d w h1 h2 hn hm)
  have hr := h1.room
  rw [← hn] at hr
  by_cases hq : m ≤ n ∧ l.take m = k
  · rw [decide_eq_true hq] at H
    have hl := hq.1
    have l2 : (m : Int) ≤ (n : Int) := by omega
    replace hq := Lib.hid hq
    clear h1 h2 hn hm hr hl
    go_enter Try.func19, Try.ntmps19
    go_wp2_with fail
    (with_reducible refine H.out.mono ?_); rintro e w1 ⟨rfl, rfl⟩
    go_wp2_with fail
    go_ret2
    exact ⟨rfl, fun _ => rfl, fun h => absurd hq.out h⟩
  · rw [decide_eq_false hq] at H
    replace hq := Lib.hid hq
    clear h1 h2 hn hm hr
    go_enter Try.func19, Try.ntmps19
    go_wp2_with fail
    (with_reducible refine H.out.mono ?_); rintro e w1 ⟨rfl, rfl⟩
    go_wp2_with fail
    go_ret2
    exact ⟨rfl, fun h => absurd h hq.out, fun _ => rfl⟩
set_option maxHeartbeats 4000000 in
theorem bCutSuffix_any (l k : List UInt8) (a b : Option Addr) (n m c d : Nat) (w : World) (h1 : Bs w a c l) (h2 : Bs w b d k) (hn : n = l.length) (hm : m = k.length) :
    Calls Try.prog 20 #[.slice a n c, .slice b m d] w fun e w' => w' = w ∧ (m ≤ n ∧ l.drop (n - m) = k → e = .returned (.tuple #[.slice a (n - m) c, .bool true])) ∧ (¬ (m ≤ n ∧ l.drop (n - m) = k) → e = .returned (.tuple #[.slice a n c, .bool false])) := by
  have H := Lib.hid (bHasSuffix_any l k a b n m c d w h1 h2 hn hm)
  have hr := h1.room
  have hx := h1.most
  unfold maxLen at hx
  rw [← hn] at hr
  by_cases hq : m ≤ n ∧ l.drop (n - m) = k
  · rw [decide_eq_true hq] at H
    have hl := hq.1
    have l4 : IntKind.i64.wrap ((n : Int) - (m : Int)) = ((n - m : Nat) : Int) := by rw [IntKind.wrap_i64]; omega
    have l5 : (0 : Int) ≤ ((n - m : Nat) : Int) := by omega
    have l6 : ((n - m : Nat) : Int) ≤ (c : Int) := by omega
    have l7 : (((n - m : Nat) : Int)).toNat = n - m := by omega
    generalize n - m = q at *
    replace hq := Lib.hid hq
    clear h1 h2 hn hm hr hl hx
    go_enter Try.func20, Try.ntmps20
    go_wp2_with fail
    (with_reducible refine H.out.mono ?_); rintro e w1 ⟨rfl, rfl⟩
    go_wp2_with fail
    go_ret2
    exact ⟨rfl, fun _ => rfl, fun h => absurd hq.out h⟩
  · rw [decide_eq_false hq] at H
    replace hq := Lib.hid hq
    clear h1 h2 hn hm hr hx
    go_enter Try.func20, Try.ntmps20
    go_wp2_with fail
    (with_reducible refine H.out.mono ?_); rintro e w1 ⟨rfl, rfl⟩
    go_wp2_with fail
    go_ret2
    exact ⟨rfl, fun h => absurd h hq.out, fun _ => rfl⟩
end Go.Proofs.Ytigjoepoaahidaa
