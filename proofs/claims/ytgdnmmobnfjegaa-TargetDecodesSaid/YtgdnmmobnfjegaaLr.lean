/- Layer 3 (wide): Left, Right, at any number of bits. -/
import Derived.Test.YtgdnmmobnfjegaaWi
namespace Go.Proofs.Ytgdnmmobnfjegaa
set_option linter.unusedVariables false
set_option linter.unusedSimpArgs false
open Go.RowKit

/-- Moved up by n bits, n below 0: down. -/
def upBy (a : Nat) (n : Int) : Nat := if n < 0 then (if -n < 256 then a / 2 ^ (-n).toNat else 0) else (if n < 256 then a * 2 ^ n.toNat % W256 else 0)

theorem left_all (a n : Nat) (ha : a < W256) (hn : n < 18446744073709551616) (w : World) :
    Calls Try.prog 46 #[.agg (rowN .u64 64 4 a), .int .u64 n] w fun e w' => e = .returned (.agg (rowN .u64 64 4 (if n < 256 then a * 2 ^ n % W256 else 0))) ∧ Fr F0 w w' := by
  by_cases h : n < 256
  · rw [if_pos h]; exact wleft_any a n ha h w
  · rw [if_neg h]; exact wleft_out a n (by omega) w
theorem right_all (a n : Nat) (ha : a < W256) (hn : n < 18446744073709551616) (w : World) :
    Calls Try.prog 45 #[.agg (rowN .u64 64 4 a), .int .u64 n] w fun e w' => e = .returned (.agg (rowN .u64 64 4 (if n < 256 then a / 2 ^ n else 0))) ∧ Fr F0 w w' := by
  by_cases h : n < 256
  · rw [if_pos h]; exact wright_any a n ha h w
  · rw [if_neg h]; exact wright_out a n (by omega) w

theorem fr_two {w w2 : World} {A B : Obj} {c : Array Value} {g : Nat} (h : Fr F0 ((w.alloc A).alloc B) w2) (hg : w.heap.size ≤ g) : Fr F0 w (w2.setRow g c) :=
  ((((Fr.refl F0 w).alloc _).alloc _).trans' h).setRow (fun h => by omega) _

set_option maxHeartbeats 2000000 in
theorem wLeft_any (a : Nat) (n : Int) (ha : a < W256) (h1 : -9223372036854775808 ≤ n) (h2 : n ≤ 9223372036854775807) (w : World) :
    Calls Try.prog 26 #[.agg (rowN .u64 64 4 a), .int .i64 n] w fun e w' => e = .returned (.agg (rowN .u64 64 4 (upBy a (n)))) ∧ Fr F0 w w' := by
  by_cases h : n < 0
  · have hd : decide (n < 0) = true := decide_eq_true h
    obtain ⟨m, hm⟩ := Int.eq_ofNat_of_zero_le (show 0 ≤ -n by omega)
    have e2 : IntKind.u64.wrap n = n + 18446744073709551616 := by rw [IntKind.wrap_u64]; omega
    have e3 : IntKind.u64.wrap (-(n + 18446744073709551616)) = (m : Int) := by rw [IntKind.wrap_u64]; omega
    have hr : upBy a (n) = if m < 256 then a / 2 ^ m else 0 := by
      obtain rfl : n = -(m : Int) := by omega
      have hmp : 0 < m := by omega
      unfold upBy
      rw [if_pos (by omega), Int.neg_neg, Int.toNat_natCast]
      by_cases h3 : m < 256
      · rw [if_pos h3, if_pos (by omega)]
      · rw [if_neg h3, if_neg (by omega)]
    rw [hr]
    have HC := Lib.hid (right_all a m ha (by omega))
    generalize (if m < 256 then a / 2 ^ m else 0) = R at *
    clear hr hm
    go_enter Try.func26, Try.ntmps26
    go_wp2_with ((with_reducible refine (HC.out _).mono ?_); rintro e w2 ⟨rfl, hf⟩; have hr1 := hf.keeps (fun f => f) (heap_alloc2_new w _ _))
    refine bodyPost_ret (results_cell_row rfl _ _ (w.heap.size + 1) _ _ _ _ rfl (by rw [heap_setRow_at, hr1]; rfl) Try.underlying24 rfl (by rw [Try.szWide]; rfl)) rfl ⟨rfl, fr_two hf (by omega)⟩
  · have hd : decide (n < 0) = false := decide_eq_false h
    obtain ⟨m, rfl⟩ := Int.eq_ofNat_of_zero_le (show 0 ≤ n by omega)
    have e2 : IntKind.u64.wrap (m : Int) = (m : Int) := by rw [IntKind.wrap_u64]; omega
    have hr : upBy a ((m : Int)) = if m < 256 then a * 2 ^ m % W256 else 0 := by
      unfold upBy
      rw [if_neg (by omega), Int.toNat_natCast]
      by_cases h3 : m < 256
      · rw [if_pos h3, if_pos (by omega)]
      · rw [if_neg h3, if_neg (by omega)]
    rw [hr]
    have HC := Lib.hid (left_all a m ha (by omega))
    generalize (if m < 256 then a * 2 ^ m % W256 else 0) = R at *
    clear hr
    go_enter Try.func26, Try.ntmps26
    go_wp2_with ((with_reducible refine (HC.out _).mono ?_); rintro e w2 ⟨rfl, hf⟩; have hr1 := hf.keeps (fun f => f) (heap_alloc2_new w _ _))
    refine bodyPost_ret (results_cell_row rfl _ _ (w.heap.size + 1) _ _ _ _ rfl (by rw [heap_setRow_at, hr1]; rfl) Try.underlying24 rfl (by rw [Try.szWide]; rfl)) rfl ⟨rfl, fr_two hf (by omega)⟩
set_option maxHeartbeats 2000000 in
theorem wRight_any (a : Nat) (n : Int) (ha : a < W256) (h1 : -9223372036854775808 ≤ n) (h2 : n ≤ 9223372036854775807) (w : World) :
    Calls Try.prog 35 #[.agg (rowN .u64 64 4 a), .int .i64 n] w fun e w' => e = .returned (.agg (rowN .u64 64 4 (upBy a (-n)))) ∧ Fr F0 w w' := by
  by_cases h : n < 0
  · have hd : decide (n < 0) = true := decide_eq_true h
    obtain ⟨m, hm⟩ := Int.eq_ofNat_of_zero_le (show 0 ≤ -n by omega)
    have e2 : IntKind.u64.wrap n = n + 18446744073709551616 := by rw [IntKind.wrap_u64]; omega
    have e3 : IntKind.u64.wrap (-(n + 18446744073709551616)) = (m : Int) := by rw [IntKind.wrap_u64]; omega
    have hr : upBy a (-n) = if m < 256 then a * 2 ^ m % W256 else 0 := by
      obtain rfl : n = -(m : Int) := by omega
      have hmp : 0 < m := by omega
      unfold upBy
      rw [Int.neg_neg, if_neg (by omega), Int.toNat_natCast]
      by_cases h3 : m < 256
      · rw [if_pos h3, if_pos (by omega)]
      · rw [if_neg h3, if_neg (by omega)]
    rw [hr]
    have HC := Lib.hid (left_all a m ha (by omega))
    generalize (if m < 256 then a * 2 ^ m % W256 else 0) = R at *
    clear hr hm
    go_enter Try.func35, Try.ntmps35
    go_wp2_with ((with_reducible refine (HC.out _).mono ?_); rintro e w2 ⟨rfl, hf⟩; have hr1 := hf.keeps (fun f => f) (heap_alloc2_new w _ _))
    refine bodyPost_ret (results_cell_row rfl _ _ (w.heap.size + 1) _ _ _ _ rfl (by rw [heap_setRow_at, hr1]; rfl) Try.underlying24 rfl (by rw [Try.szWide]; rfl)) rfl ⟨rfl, fr_two hf (by omega)⟩
  · have hd : decide (n < 0) = false := decide_eq_false h
    obtain ⟨m, rfl⟩ := Int.eq_ofNat_of_zero_le (show 0 ≤ n by omega)
    have e2 : IntKind.u64.wrap (m : Int) = (m : Int) := by rw [IntKind.wrap_u64]; omega
    have hr : upBy a (-(m : Int)) = if m < 256 then a / 2 ^ m else 0 := by
      unfold upBy
      by_cases h0 : m = 0
      · subst h0
        simp [Nat.mod_eq_of_lt ha]
      · rw [if_pos (by omega), Int.neg_neg, Int.toNat_natCast]
        by_cases h3 : m < 256
        · rw [if_pos h3, if_pos (by omega)]
        · rw [if_neg h3, if_neg (by omega)]
    rw [hr]
    have HC := Lib.hid (right_all a m ha (by omega))
    generalize (if m < 256 then a / 2 ^ m else 0) = R at *
    clear hr
    go_enter Try.func35, Try.ntmps35
    go_wp2_with ((with_reducible refine (HC.out _).mono ?_); rintro e w2 ⟨rfl, hf⟩; have hr1 := hf.keeps (fun f => f) (heap_alloc2_new w _ _))
    refine bodyPost_ret (results_cell_row rfl _ _ (w.heap.size + 1) _ _ _ _ rfl (by rw [heap_setRow_at, hr1]; rfl) Try.underlying24 rfl (by rw [Try.szWide]; rfl)) rfl ⟨rfl, fr_two hf (by omega)⟩
end Go.Proofs.Ytgdnmmobnfjegaa
