/- Layer 3 (wide): a number that is one word. -/
import Derived.Test.YtgdnmmobnfjegaaDi
namespace Go.Proofs.Ytgdnmmobnfjegaa
set_option linter.unusedVariables false
set_option linter.unusedSimpArgs false
open Go.RowKit

theorem low_eq (a : Nat) (ha : a < W256) : rowEq 256 a (dgt 64 a 0) = decide (a < 18446744073709551616) := by
  have h0 : dgt 64 a 0 = a % 18446744073709551616 := by unfold dgt; rw [Nat.mul_zero, Nat.pow_zero, Nat.div_one]
  have hl : dgt 64 a 0 < W256 := Nat.lt_of_le_of_lt (by rw [h0]; exact Nat.mod_le _ _) ha
  rw [rowEq_of a _ ha hl, h0]
  by_cases h : a < 18446744073709551616
  · rw [decide_eq_true h, decide_eq_true (Nat.mod_eq_of_lt h).symm]
  · rw [decide_eq_false h, decide_eq_false]
    intro e
    have := Nat.mod_lt a (show 0 < 18446744073709551616 by omega)
    omega

set_option maxRecDepth 100000 in
set_option maxHeartbeats 4000000 in
theorem wUint_core (a d u : Nat) (o : Bool) (hE : rowEq 256 a d = o) (hd : dgt 64 a 0 = d) (hu : u = if o then d else 0) (w : World) :
    Calls Try.prog 36 #[.agg (rowN .u64 64 4 a)] w fun e w' => e = .returned (.tuple #[.int .u64 (u : Int), .bool o]) ∧ Fr F0 w w' := by
  have HO := Lib.hid (fun w => show Calls Try.prog 25 #[.int .u64 (dgt 64 a 0 : Nat)] w _ from wOf_any (dgt 64 a 0) (dgt_lt _ _ _) w)
  rw [hd] at HO
  have HU := Lib.hid hu
  clear hu
  go_enter Try.func36, Try.ntmps36
  go_wp2_with fail
  have r0 := heap_alloc_new w (.cells (rowN .u64 64 4 a) 24)
  have F := (Fr.refl F0 w).alloc (.cells (rowN .u64 64 4 a) 24)
  obtain ⟨W1, hW1⟩ : ∃ W1, W1 = w.alloc (.cells (rowN .u64 64 4 a) 24) := ⟨_, rfl⟩
  rw [← hW1] at r0 F
  refine wp_of_world W1 hW1 ?_
  clear hW1
  generalize w.heap.size = g0 at *
  refine wp_region_noPanic ?_
  refine wp_region_held_drew (S := (fun w' => w'.heap[g0]? = some (.cells (rowN .u64 64 4 a) 24 (0, 0)) ∧ Fr F0 w w')) (by kernel_rfl) ?_ (fun hHeld => ?_)
  · ((try dsimp only) <;> (first | exact ⟨r0, F.drew⟩ | exact ⟨keep_fr f5 hHeld.1, hHeld.2.trans' f5⟩))
  refine wpAnyH_take (i := 0) (oi := ⟨_, _, _, _, _, _⟩) (v := ?_) rfl (by kernel_rfl) (by kernel_rfl) (by kernel_rfl) (fun _ _ _ h => h) (Or.inl ⟨by rfl, ?_⟩) (by assumption) ?_
  rotate_left
  · intro w hSw; (try dsimp only at hSw); go_simp; (try (with_reducible rfl)); done
  simp only [Act.put, List.setIfInBounds_toArray]; dsimp only [List.set_cons_zero, List.set_cons_succ]
  refine wpAnyH_take (i := 1) (oi := ⟨_, _, _, _, _, _⟩) (v := ?_) rfl (by kernel_rfl) (by kernel_rfl) (by kernel_rfl) (fun _ _ _ h => h) (Or.inl ⟨by rfl, ?_⟩) (by assumption) ?_
  rotate_left
  · intro w hSw; (try dsimp only at hSw); go_simp; (try (with_reducible rfl)); done
  simp only [Act.put, List.setIfInBounds_toArray]; dsimp only [List.set_cons_zero, List.set_cons_succ]
  refine wpAnyH_take (i := 2) (oi := ⟨_, _, _, _, _, _⟩) (v := ?_) rfl (by kernel_rfl) (by kernel_rfl) (by kernel_rfl) (fun _ _ _ h => h) (Or.inl ⟨by rfl, ?_⟩) (by assumption) ?_
  rotate_left
  · intro w hSw; (try dsimp only at hSw); go_simp; (try (with_reducible rfl)); done
  simp only [Act.put, List.setIfInBounds_toArray]; dsimp only [List.set_cons_zero, List.set_cons_succ]
  refine wpAnyH_ready (rs := [3]) (by kernel_rfl) (by simp) ?_
  refine AllReadyH.cons (o := ⟨_, _, _, _, _, _⟩) rfl (fun K hK => ?_) AllReadyH.nil
  go_simp
  ((with_reducible refine (HO.out _).mono ?_); rintro e w5 ⟨rfl, f5⟩)
  refine hK.out _ _ ?_ (fun hHeld => ?_)
  · ((try dsimp only) <;> (first | exact ⟨r0, F.drew⟩ | exact ⟨keep_fr f5 hHeld.1, hHeld.2.trans' f5⟩))
  clear hK K
  try (simp only [Act.put, List.setIfInBounds_toArray]; dsimp only [List.set_cons_zero, List.set_cons_succ])
  refine wpAnyH_take (i := 4) (oi := ⟨_, _, _, _, _, _⟩) (v := ?_) rfl (by kernel_rfl) (by kernel_rfl) (by kernel_rfl) (fun _ _ _ h => h) (Or.inl ⟨by rfl, ?_⟩) (by assumption) ?_
  rotate_left
  · intro w hSw; (try dsimp only at hSw); go_simp; (try (with_reducible rfl)); done
  simp only [Act.put, List.setIfInBounds_toArray]; dsimp only [List.set_cons_zero, List.set_cons_succ]
  refine wpAnyH_done (by kernel_rfl) ?_ _
  refine NoPanic.normal ?_
  all_goals
    clear r0 F
    obtain ⟨r0, F⟩ := hHeld
    cases o
    · go_wp2
      go_ret2
      exact ⟨by rw [HU.out]; rfl, F⟩
    · go_wp2
      go_ret2
      exact ⟨by rw [HU.out]; rfl, F⟩

theorem wUint_any (a : Nat) (ha : a < W256) (w : World) :
    Calls Try.prog 36 #[.agg (rowN .u64 64 4 a)] w fun e w' => e = .returned (.tuple #[.int .u64 ((if a < 18446744073709551616 then a else 0 : Nat) : Int), .bool (decide (a < 18446744073709551616))]) ∧ Fr F0 w w' := by
  refine wUint_core a (dgt 64 a 0) _ _ (low_eq a ha) rfl ?_ w
  have h0 : dgt 64 a 0 = a % 18446744073709551616 := by unfold dgt; rw [Nat.mul_zero, Nat.pow_zero, Nat.div_one]
  by_cases h : a < 18446744073709551616
  · rw [decide_eq_true h, if_pos h, if_pos rfl, h0, Nat.mod_eq_of_lt h]
  · rw [decide_eq_false h, if_neg h]; rfl
end Go.Proofs.Ytgdnmmobnfjegaa
