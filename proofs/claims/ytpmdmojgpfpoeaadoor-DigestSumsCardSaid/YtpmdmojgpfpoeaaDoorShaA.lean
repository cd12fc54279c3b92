/- Turning words: the standard library's, the program's and the document's. -/
import Derived.Test.YtpmdmojgpfpoeaaDoorWord
import Derived.Deep.RegionHeld3
import Derived.OrdersHeld
namespace Go.Proofs.YtpmdmojgpfpoeaaDoor
set_option linter.unusedVariables false
set_option linter.unusedSimpArgs false
open Go.RowKit

attribute [local go_sem high] wdv_and wdv_or wdv_xor wdv_not wdv_add wdv_shl wdv_shr

/-- A word turned right. -/
def rotr (x : Wd) (n : Nat) : Wd := x >>> n ||| x <<< (32 - n)

theorem rot_amount : ∀ i : Nat, i < 32 → 1 ≤ i → bits .and .u64 (IntKind.u64.wrap (-(i : Int))) 31 = 32 - i := by decide +kernel

theorem RotL32_right (x : Wd) (i : Nat) (w : World) (h0 : 1 ≤ i) (h1 : i < 32) :
    Calls Tryd.prog 32 #[.int .u32 (wi x), .int .i64 (-(i : Int))] w fun e w' => e = .returned (.int .u32 (wi (rotr x i))) ∧ w' = w := by
  obtain ⟨j, hj⟩ : ∃ j, j = 32 - i := ⟨_, rfl⟩
  have HJ := Lib.hid hj
  have hb : bits .and .u64 (IntKind.u64.wrap (-(i : Int))) 31 = (j : Int) := by rw [rot_amount i h1 h0]; omega
  have f2 : (j : Int) < 32 := by omega
  have f4 : (i : Int) < 32 := by omega
  have f3 : IntKind.u64.wrap (32 - (j : Int)) = (i : Int) := by rw [IntWalk.u64_in _ (by omega)]; omega
  clear hj
  go_enter Tryd.func32, Tryd.ntmps32
  go_wp2
  go_ret
  refine ⟨?_, rfl⟩
  show Ending.returned (.int .u32 (wi _)) = _
  rw [BitVec.or_comm, HJ.out]
  rfl

theorem turned_any (x : Wd) (i j k : Nat) (w : World) (hi : 1 ≤ i ∧ i < 32) (hj : 1 ≤ j ∧ j < 32) (hk : 1 ≤ k ∧ k < 32) :
    Calls Tryd.prog 27 #[.int .u32 (wi x), .int .i64 (i : Int), .int .i64 (j : Int), .int .i64 (k : Int)] w fun e w' => e = .returned (.int .u32 (wi (rotr x i ^^^ rotr x j ^^^ rotr x k))) ∧ w' = w := by
  have f1 : IntKind.i64.wrap (-(i : Int)) = -(i : Int) := IntWalk.i64_in _ (by omega)
  have f2 : IntKind.i64.wrap (-(j : Int)) = -(j : Int) := IntWalk.i64_in _ (by omega)
  have f3 : IntKind.i64.wrap (-(k : Int)) = -(k : Int) := IntWalk.i64_in _ (by omega)
  go_enter Tryd.func27, Tryd.ntmps27
  go_wp2_with fail
  refine (RotL32_right x i _ hi.1 hi.2).mono ?_
  rintro e w1 ⟨rfl, rfl⟩
  go_wp2_with fail
  refine (RotL32_right x j _ hj.1 hj.2).mono ?_
  rintro e w1 ⟨rfl, rfl⟩
  go_wp2_with fail
  refine (RotL32_right x k _ hk.1 hk.2).mono ?_
  rintro e w1 ⟨rfl, rfl⟩
  go_wp2
  go_ret
  exact ⟨rfl, rfl⟩

theorem r2turn_any (x : Wd) (i : Nat) (w : World) (h0 : 1 ≤ i) (h1 : i < 32) :
    Calls Tryd.prog 22 #[.int .u32 (wi x), .int .i64 (i : Int)] w fun e w' => e = .returned (.int .u32 (wi (rotr x i))) ∧ w' = w.drew := by
  obtain ⟨j, hj⟩ : ∃ j, j = 32 - i := ⟨_, rfl⟩
  have HJ := Lib.hid hj
  have f2 : (j : Int) < 32 := by omega
  have f4 : (i : Int) < 32 := by omega
  have f3 : IntKind.i64.wrap (32 - (i : Int)) = (j : Int) := by rw [IntWalk.i64_in _ (by omega)]; omega
  clear hj
  go_enter Tryd.func22, Tryd.ntmps22
  go_wp2_with fail
  refine wp_region_noPanic ?_
  refine wp_region_held_drew (S := (fun w' => w' = w.drew)) (by kernel_rfl) ?_ (fun hHeld => ?_)
  · ((try dsimp only) <;> (rfl))
  refine wpAnyH_take (i := 0) (oi := ⟨_, _, _, _, _, _⟩) (v := ?_) rfl (by kernel_rfl) (by kernel_rfl) (by kernel_rfl) (fun _ _ _ h => h) (Or.inl ⟨by rfl, ?_⟩) (by assumption) ?_
  rotate_left
  · intro w hSw; (try dsimp only at hSw); go_simp; (try (with_reducible rfl)); done
  simp only [Act.put, List.setIfInBounds_toArray]; dsimp only [List.set_cons_zero, List.set_cons_succ]
  refine wpAnyH_take (i := 1) (oi := ⟨_, _, _, _, _, _⟩) (v := ?_) rfl (by kernel_rfl) (by kernel_rfl) (by kernel_rfl) (fun _ _ _ h => h) (Or.inl ⟨by rfl, ?_⟩) (by assumption) ?_
  rotate_left
  · intro w hSw; (try dsimp only at hSw); go_simp; (try (with_reducible rfl)); done
  simp only [Act.put, List.setIfInBounds_toArray]; dsimp only [List.set_cons_zero, List.set_cons_succ]
  refine wpAnyH_take (i := 2) (oi := ⟨_, _, _, _, _, _⟩) (v := ?_) rfl (by kernel_rfl) (by kernel_rfl) (by kernel_rfl) (fun _ _ _ h => h) (Or.inl ⟨by rfl, ?_⟩) (by assumption) ?_
  rotate_left
  · intro w hSw; (try dsimp only at hSw); go_simp; (try (with_reducible rfl)); done
  simp only [Act.put, List.setIfInBounds_toArray]; dsimp only [List.set_cons_zero, List.set_cons_succ]
  refine wpAnyH_take (i := 3) (oi := ⟨_, _, _, _, _, _⟩) (v := ?_) rfl (by kernel_rfl) (by kernel_rfl) (by kernel_rfl) (fun _ _ _ h => h) (Or.inl ⟨by rfl, ?_⟩) (by assumption) ?_
  rotate_left
  · intro w hSw; (try dsimp only at hSw); go_simp; (try (with_reducible rfl)); done
  simp only [Act.put, List.setIfInBounds_toArray]; dsimp only [List.set_cons_zero, List.set_cons_succ]
  refine wpAnyH_take (i := 4) (oi := ⟨_, _, _, _, _, _⟩) (v := ?_) rfl (by kernel_rfl) (by kernel_rfl) (by kernel_rfl) (fun _ _ _ h => h) (Or.inl ⟨by rfl, ?_⟩) (by assumption) ?_
  rotate_left
  · intro w hSw; (try dsimp only at hSw); go_simp; (try (with_reducible rfl)); done
  simp only [Act.put, List.setIfInBounds_toArray]; dsimp only [List.set_cons_zero, List.set_cons_succ]
  refine wpAnyH_take (i := 5) (oi := ⟨_, _, _, _, _, _⟩) (v := ?_) rfl (by kernel_rfl) (by kernel_rfl) (by kernel_rfl) (fun _ _ _ h => h) (Or.inl ⟨by rfl, ?_⟩) (by assumption) ?_
  rotate_left
  · intro w hSw; (try dsimp only at hSw); go_simp; (try (with_reducible rfl)); done
  simp only [Act.put, List.setIfInBounds_toArray]; dsimp only [List.set_cons_zero, List.set_cons_succ]
  refine wpAnyH_take (i := 6) (oi := ⟨_, _, _, _, _, _⟩) (v := ?_) rfl (by kernel_rfl) (by kernel_rfl) (by kernel_rfl) (fun _ _ _ h => h) (Or.inl ⟨by rfl, ?_⟩) (by assumption) ?_
  rotate_left
  · intro w hSw; (try dsimp only at hSw); go_simp; (try (with_reducible rfl)); done
  simp only [Act.put, List.setIfInBounds_toArray]; dsimp only [List.set_cons_zero, List.set_cons_succ]
  refine wpAnyH_take (i := 7) (oi := ⟨_, _, _, _, _, _⟩) (v := ?_) rfl (by kernel_rfl) (by kernel_rfl) (by kernel_rfl) (fun _ _ _ h => h) (Or.inl ⟨by rfl, ?_⟩) (by assumption) ?_
  rotate_left
  · intro w hSw; (try dsimp only at hSw); go_simp; (try (with_reducible rfl)); done
  simp only [Act.put, List.setIfInBounds_toArray]; dsimp only [List.set_cons_zero, List.set_cons_succ]
  refine wpAnyH_take (i := 8) (oi := ⟨_, _, _, _, _, _⟩) (v := ?_) rfl (by kernel_rfl) (by kernel_rfl) (by kernel_rfl) (fun _ _ _ h => h) (Or.inl ⟨by rfl, ?_⟩) (by assumption) ?_
  rotate_left
  · intro w hSw; (try dsimp only at hSw); go_simp; (try (with_reducible rfl)); done
  simp only [Act.put, List.setIfInBounds_toArray]; dsimp only [List.set_cons_zero, List.set_cons_succ]
  refine wpAnyH_done (by kernel_rfl) ?_ _
  refine NoPanic.normal ?_
  go_wp2
  go_ret
  refine ⟨?_, rfl⟩
  rw [rotr, ← HJ.out]
  rfl
end Go.Proofs.YtpmdmojgpfpoeaaDoor
