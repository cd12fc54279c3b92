/- Turning words: the standard library's, the program's and the document's. -/
import Derived.Test.YtkppakhjfagdnaaDoorWord
import Derived.Deep.RegionHeld3
import Derived.OrdersHeld
namespace Go.Proofs.YtkppakhjfagdnaaDoor
set_option linter.unusedVariables false
set_option linter.unusedSimpArgs false
open Go.RowKit

attribute [local go_sem high] wdv_and wdv_or wdv_xor wdv_not wdv_add wdv_shl wdv_shr

/-- A word turned right. -/
def rotr (x : Wd) (n : Nat) : Wd := x >>> n ||| x <<< (32 - n)

theorem rot_amount : ∀ i : Nat, i < 32 → 1 ≤ i → bits .and .u64 (IntKind.u64.wrap (-(i : Int))) 31 = 32 - i := by decide +kernel

theorem RotL32_right (x : Wd) (i : Nat) (w : World) (h0 : 1 ≤ i) (h1 : i < 32) :
    Calls Tryd.prog 25 #[.int .u32 (wi x), .int .i64 (-(i : Int))] w fun e w' => e = .returned (.int .u32 (wi (rotr x i))) ∧ w' = w := by
  obtain ⟨j, hj⟩ : ∃ j, j = 32 - i := ⟨_, rfl⟩
  have HJ := Lib.hid hj
  have hb : bits .and .u64 (IntKind.u64.wrap (-(i : Int))) 31 = (j : Int) := by rw [rot_amount i h1 h0]; omega
  have f2 : (j : Int) < 32 := by omega
  have f4 : (i : Int) < 32 := by omega
  have f3 : IntKind.u64.wrap (32 - (j : Int)) = (i : Int) := by rw [IntWalk.u64_in _ (by omega)]; omega
  clear hj
  go_enter Tryd.func25, Tryd.ntmps25
  go_wp2
  go_ret
  refine ⟨?_, rfl⟩
  show Ending.returned (.int .u32 (wi _)) = _
  rw [BitVec.or_comm, HJ.out]
  rfl

theorem turned_any (x : Wd) (i j k : Nat) (w : World) (hi : 1 ≤ i ∧ i < 32) (hj : 1 ≤ j ∧ j < 32) (hk : 1 ≤ k ∧ k < 32) :
    Calls Tryd.prog 23 #[.int .u32 (wi x), .int .i64 (i : Int), .int .i64 (j : Int), .int .i64 (k : Int)] w fun e w' => e = .returned (.int .u32 (wi (rotr x i ^^^ rotr x j ^^^ rotr x k))) ∧ w' = w := by
  have f1 : IntKind.i64.wrap (-(i : Int)) = -(i : Int) := IntWalk.i64_in _ (by omega)
  have f2 : IntKind.i64.wrap (-(j : Int)) = -(j : Int) := IntWalk.i64_in _ (by omega)
  have f3 : IntKind.i64.wrap (-(k : Int)) = -(k : Int) := IntWalk.i64_in _ (by omega)
  go_enter Tryd.func23, Tryd.ntmps23
  go_wp2_with fail
  refine (RotL32_right x i _ hi.1 hi.2).mono ?_
  rintro e w1 ⟨rfl, rfl⟩
  go_wp2_with fail
  refine (RotL32_right x j _ hj.1 hj.2).mono ?_
  rintro e w1 ⟨rfl, rfl⟩
  go_wp2_with fail
  refine (RotL32_right x k _ hk.1 hk.2).mono ?_
  rintro e w1 ⟨rfl, rfl⟩
  go_wp2
  go_ret
  exact ⟨rfl, rfl⟩

end Go.Proofs.YtkppakhjfagdnaaDoor
