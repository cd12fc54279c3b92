/- Layer 3 (wide): one word, two words; numbers held against each other; a number's bits. -/
import Derived.Test.YtgdnmmobnfjegaaWc
namespace Go.Proofs.Ytgdnmmobnfjegaa
set_option linter.unusedVariables false
set_option linter.unusedSimpArgs false
open Go.RowKit

theorem Try.infoU : ∃ i, Try.prog.info? 22 = some i := by
  cases h : Try.prog.info? 22 with
  | none => have := Try.szU64; rw [h] at this; cases this
  | some i => exact ⟨i, rfl⟩

@[simp high] theorem run_eql_wide (w : World) (x y : Nat) : (binOp .eql 24 (.agg (rowN .u64 64 4 x)) (.agg (rowN .u64 64 4 y))).run Try.prog w = .ok (.bool (rowEq 256 x y)) w := by
  obtain ⟨i, hi⟩ := Try.infoU
  exact run_eql_rowN w 24 22 .u64 64 4 i Try.underlying24 hi (by kernel_rfl) (by kernel_rfl) Try.underlying22 x y
@[simp high] theorem run_neq_wide (w : World) (x y : Nat) : (binOp .neq 24 (.agg (rowN .u64 64 4 x)) (.agg (rowN .u64 64 4 y))).run Try.prog w = .ok (.bool (!rowEq 256 x y)) w := by
  obtain ⟨i, hi⟩ := Try.infoU
  exact run_neq_rowN w 24 22 .u64 64 4 i Try.underlying24 hi (by kernel_rfl) (by kernel_rfl) Try.underlying22 x y

theorem rowEq_of (x y : Nat) (hx : x < W256) (hy : y < W256) : rowEq 256 x y = decide (x = y) := by
  unfold rowEq
  rw [Nat.mod_eq_of_lt (show x < 2 ^ 256 from hx), Nat.mod_eq_of_lt (show y < 2 ^ 256 from hy)]

set_option maxHeartbeats 1000000 in
theorem wOf_any (x : Nat) (hx : x < 2 ^ 64) (w : World) :
    Calls Try.prog 25 #[.int .u64 x] w fun e w' => e = .returned (.agg (rowN .u64 64 4 x)) ∧ Fr F0 w w' := by
  go_enter Try.func25, Try.ntmps25
  go_wp2
  refine bodyPost_ret (results_cell_row rfl _ _ w.heap.size _ _ _ _ rfl (by rw [heap_setRow_at, heap_alloc_new]; rfl) Try.underlying24 rfl (by rw [Try.szWide]; rfl)) rfl ⟨rfl, ?_⟩
  exact ((Fr.refl F0 w).alloc _).setRow (fun h => by omega) _

theorem mul_two (x y : Nat) : mulLo x y + 2 ^ 64 * mulHi x y = x * y := Nat.mod_add_div _ _
theorem mulHi_lt (x y : Nat) (hx : x < 2 ^ 64) (hy : y < 2 ^ 64) : mulHi x y < 2 ^ 64 := by
  unfold mulHi
  rw [Nat.div_lt_iff_lt_mul (Nat.two_pow_pos _)]
  exact Nat.mul_lt_mul'' hx hy

set_option maxHeartbeats 1000000 in
theorem wProduct_any (x y : Nat) (hx : x < 2 ^ 64) (hy : y < 2 ^ 64) (w : World) :
    Calls Try.prog 55 #[.int .u64 x, .int .u64 y] w fun e w' => e = .returned (.agg (rowN .u64 64 4 (x * y))) ∧ Fr F0 w w' := by
  have h1 := mulLo_lt x y
  have h2 := mulHi_lt x y hx hy
  have HM := Lib.hid (mul_two x y)
  go_enter Try.func55, Try.ntmps55
  go_wp2_with ((with_reducible refine (Mul64_any _ _ (by omega) (by omega) _).mono ?_); rintro e w' ⟨rfl, rfl⟩)
  refine bodyPost_ret (results_cell_row rfl _ _ w.heap.size _ _ _ _ rfl (by rw [heap_setRow_at, heap_alloc_new]; rfl) Try.underlying24 rfl (by rw [Try.szWide]; rfl)) rfl ⟨by rw [← HM.out], ?_⟩
  exact ((Fr.refl F0 w).alloc _).setRow (fun h => by omega) _
end Go.Proofs.Ytgdnmmobnfjegaa
