/- Layer 3's fixed fact. -/
import Derived.Test.YtmebilpmhflahaaDi
namespace Go.Proofs.Ytmebilpmhflahaa
set_option linter.unusedVariables false
set_option linter.unusedSimpArgs false
open Go.RowKit

@[simp high] theorem rowEq_self (m x : Nat) : rowEq m x x = true := decide_eq_true rfl

theorem rowN_nil4 (x : Nat) : (rowN .u64 64 4 x = #[]) = False := by
  apply eq_false
  intro h
  have := congrArg Array.size h
  rw [rowN_size] at this
  simp at this
theorem set_0 : (rowN .u64 64 4 0).setIfInBounds 0 (.int .u64 0) = rowN .u64 64 4 0 := by
  have := set_word 0 0 0 (by omega)
  rw [putw_zero0] at this
  exact this
theorem set_2 : (rowN .u64 64 4 0).setIfInBounds 1 (.int .u64 2) = rowN .u64 64 4 36893488147419103232 := by
  have := set_word 0 1 2 (by omega)
  rw [putw_one _ _ (by omega)] at this
  exact this

set_option maxRecDepth 100000 in
set_option maxHeartbeats 4000000 in
theorem lives03_any (w : World) : Calls Try.prog 8 #[] w fun e w' => e = .returned (.bool true) ∧ Fr F0 w w' := by
  have HO10 := Lib.hid (fun w => show Calls Try.prog 22 #[.int .u64 10] w _ from wOf_any 10 (by omega) w)
  have HO3 := Lib.hid (fun w => show Calls Try.prog 22 #[.int .u64 3] w _ from wOf_any 3 (by omega) w)
  have HO1 := Lib.hid (fun w => show Calls Try.prog 22 #[.int .u64 1] w _ from wOf_any 1 (by omega) w)
  have HP := Lib.hid (fun w => show Calls Try.prog 35 #[.int .u64 9223372036854775808, .int .u64 4] w fun e w' => e = .returned (.agg (rowN .u64 64 4 36893488147419103232)) ∧ Fr F0 w w' from wProduct_any 9223372036854775808 4 (by omega) (by omega) w)
  have HD := Lib.hid (fun w => show Calls Try.prog 34 #[.agg (rowN .u64 64 4 10), .agg (rowN .u64 64 4 3)] w fun e w' => e = .returned (.tuple #[.agg (rowN .u64 64 4 3), .agg (rowN .u64 64 4 1), .int .i64 0]) ∧ Fr F0 w w' from wDiv_any 10 3 (Nat.lt_of_lt_of_le (by omega) (Nat.pow_le_pow_right (n := 2) (i := 64) (by omega) (by omega))) (Nat.lt_of_lt_of_le (by omega) (Nat.pow_le_pow_right (n := 2) (i := 64) (by omega) (by omega))) (by omega) w)
  have hb0 := set_0
  have hb2 := set_2
  have hbn := rowN_nil4 0
  go_enter Try.func8, Try.ntmps8
  go_wp2_with fail
  refine (HO10.out _).mono ?_
  rintro e w1 ⟨rfl, f1⟩
  go_wp2_with fail
  refine (HO3.out _).mono ?_
  rintro e w2 ⟨rfl, f2⟩
  go_wp2_with fail
  refine (HD.out _).mono ?_
  rintro e w3 ⟨rfl, f3⟩
  have F3 := (f1.trans' f2).trans' f3
  clear f1 f2 f3
  go_wp2_with fail
  obtain ⟨W4, hW4⟩ : ∃ W4, W4 = (((w3.alloc (.cells (rowN .u64 64 4 0) 24)).alloc (.cells (rowN .u64 64 4 0) 24)).setRow w3.heap.size (rowN .u64 64 4 3)).setRow (w3.heap.size + 1) (rowN .u64 64 4 1) := ⟨_, rfl⟩
  refine wp_of_world W4 hW4 ?_
  obtain ⟨r1, r2⟩ := heap2 w3 (.cells (rowN .u64 64 4 0) 24) (.cells (rowN .u64 64 4 0) 24)
  have s1 : W4.heap[w3.heap.size]? = some (.cells (rowN .u64 64 4 3) 24 (0, 0)) := by rw [hW4, heap_setRow_ne _ _ _ _ (by omega), heap_setRow_at, r1]; rfl
  have s2 : W4.heap[w3.heap.size + 1]? = some (.cells (rowN .u64 64 4 1) 24 (0, 0)) := by rw [hW4, heap_setRow_at, heap_setRow_ne _ _ _ _ (by omega), r2]; rfl
  have F4 : Fr F0 w W4 := by rw [hW4]; exact (((F3.alloc _).alloc _).setRow (fun h => by have := F3.size; omega) _).setRow (fun h => by have := F3.size; omega) _
  clear hW4 r1 r2 F3
  generalize hg1 : w3.heap.size = g1 at *
  generalize hg2 : g1 + 1 = g2 at *
  clear hg1 hg2
  refine wp_region_noPanic ?_
  refine wp_region_held_drew (S := (fun w' => (w'.heap[g1]? = some (.cells (rowN .u64 64 4 3) 24 (0, 0)) ∧ w'.heap[g2]? = some (.cells (rowN .u64 64 4 1) 24 (0, 0))) ∧ Fr F0 w w')) (by kernel_rfl) ?_ (fun hHeld => ?_)
  · ((try dsimp only) <;> (first | exact ⟨⟨s1, s2⟩, F4.drew⟩ | exact ⟨⟨f5.keeps (fun f => f) hHeld.1.1, f5.keeps (fun f => f) hHeld.1.2⟩, hHeld.2.trans' f5⟩))
  refine wpAnyH_take (i := 1) (oi := ⟨_, _, _, _, _, _⟩) (v := ?_) rfl (by kernel_rfl) (by kernel_rfl) (by kernel_rfl) (fun _ _ _ h => h) (Or.inl ⟨by rfl, ?_⟩) (by assumption) ?_
  rotate_left
  · intro w hSw; (try dsimp only at hSw); go_simp; (try (with_reducible rfl)); done
  simp only [Act.put, List.setIfInBounds_toArray]; dsimp only [List.set_cons_zero, List.set_cons_succ]
  refine wpAnyH_ready (rs := [0]) (by kernel_rfl) (by simp) ?_
  refine AllReadyH.cons (o := ⟨_, _, _, _, _, _⟩) rfl (fun K hK => ?_) AllReadyH.nil
  go_simp
  (refine (HP.out _).mono ?_; rintro e w5 ⟨rfl, f5⟩)
  refine hK.out _ _ ?_ (fun hHeld => ?_)
  · ((try dsimp only) <;> (first | exact ⟨⟨s1, s2⟩, F4.drew⟩ | exact ⟨⟨f5.keeps (fun f => f) hHeld.1.1, f5.keeps (fun f => f) hHeld.1.2⟩, hHeld.2.trans' f5⟩))
  clear hK K
  try (simp only [Act.put, List.setIfInBounds_toArray]; dsimp only [List.set_cons_zero, List.set_cons_succ])
  refine wpAnyH_take (i := 2) (oi := ⟨_, _, _, _, _, _⟩) (v := ?_) rfl (by kernel_rfl) (by kernel_rfl) (by kernel_rfl) (fun _ _ _ h => h) (Or.inl ⟨by rfl, ?_⟩) (by assumption) ?_
  rotate_left
  · intro w hSw; (try dsimp only at hSw); go_simp; (try (with_reducible rfl)); done
  simp only [Act.put, List.setIfInBounds_toArray]; dsimp only [List.set_cons_zero, List.set_cons_succ]
  refine wpAnyH_take (i := 3) (oi := ⟨_, _, _, _, _, _⟩) (v := ?_) rfl (by kernel_rfl) (by kernel_rfl) (by kernel_rfl) (fun _ _ _ h => h) (Or.inl ⟨by rfl, ?_⟩) (by assumption) ?_
  rotate_left
  · intro w hSw; (try dsimp only at hSw); go_simp; (try (with_reducible rfl)); done
  simp only [Act.put, List.setIfInBounds_toArray]; dsimp only [List.set_cons_zero, List.set_cons_succ]
  refine wpAnyH_take (i := 4) (oi := ⟨_, _, _, _, _, _⟩) (v := ?_) rfl (by kernel_rfl) (by kernel_rfl) (by kernel_rfl) (fun _ _ _ h => h) (Or.inl ⟨by rfl, ?_⟩) (by assumption) ?_
  rotate_left
  · intro w hSw; (try dsimp only at hSw); go_simp; (try (with_reducible rfl)); done
  simp only [Act.put, List.setIfInBounds_toArray]; dsimp only [List.set_cons_zero, List.set_cons_succ]
  refine wpAnyH_take (i := 5) (oi := ⟨_, _, _, _, _, _⟩) (v := ?_) rfl (by kernel_rfl) (by kernel_rfl) (by kernel_rfl) (fun _ _ _ h => h) (Or.inl ⟨by rfl, ?_⟩) (by assumption) ?_
  rotate_left
  · intro w hSw; (try dsimp only at hSw); go_simp; (try (with_reducible rfl)); done
  simp only [Act.put, List.setIfInBounds_toArray]; dsimp only [List.set_cons_zero, List.set_cons_succ]
  refine wpAnyH_take (i := 6) (oi := ⟨_, _, _, _, _, _⟩) (v := ?_) rfl (by kernel_rfl) (by kernel_rfl) (by kernel_rfl) (fun _ _ _ h => h) (Or.inl ⟨by rfl, ?_⟩) (by assumption) ?_
  rotate_left
  · intro w hSw; (try dsimp only at hSw); go_simp; (try (with_reducible rfl)); done
  simp only [Act.put, List.setIfInBounds_toArray]; dsimp only [List.set_cons_zero, List.set_cons_succ]
  refine wpAnyH_take (i := 7) (oi := ⟨_, _, _, _, _, _⟩) (v := ?_) rfl (by kernel_rfl) (by kernel_rfl) (by kernel_rfl) (fun _ _ _ h => h) (Or.inl ⟨by rfl, ?_⟩) (by assumption) ?_
  rotate_left
  · intro w hSw; (try dsimp only at hSw); go_simp; (try (with_reducible rfl)); done
  simp only [Act.put, List.setIfInBounds_toArray]; dsimp only [List.set_cons_zero, List.set_cons_succ]
  refine wpAnyH_take (i := 8) (oi := ⟨_, _, _, _, _, _⟩) (v := ?_) rfl (by kernel_rfl) (by kernel_rfl) (by kernel_rfl) (fun _ _ _ h => h) (Or.inl ⟨by rfl, ?_⟩) (by assumption) ?_
  rotate_left
  · intro w hSw; (try dsimp only at hSw); go_simp; (try (with_reducible rfl)); done
  simp only [Act.put, List.setIfInBounds_toArray]; dsimp only [List.set_cons_zero, List.set_cons_succ]
  refine wpAnyH_ready (rs := [9]) (by kernel_rfl) (by simp) ?_
  refine AllReadyH.cons (o := ⟨_, _, _, _, _, _⟩) rfl (fun K hK => ?_) AllReadyH.nil
  go_simp
  (refine (HO3.out _).mono ?_; rintro e w5 ⟨rfl, f5⟩)
  refine hK.out _ _ ?_ (fun hHeld => ?_)
  · ((try dsimp only) <;> (first | exact ⟨⟨s1, s2⟩, F4.drew⟩ | exact ⟨⟨f5.keeps (fun f => f) hHeld.1.1, f5.keeps (fun f => f) hHeld.1.2⟩, hHeld.2.trans' f5⟩))
  clear hK K
  try (simp only [Act.put, List.setIfInBounds_toArray]; dsimp only [List.set_cons_zero, List.set_cons_succ])
  refine wpAnyH_take (i := 10) (oi := ⟨_, _, _, _, _, _⟩) (v := ?_) rfl (by kernel_rfl) (by kernel_rfl) (by kernel_rfl) (fun _ _ _ h => h) (Or.inl ⟨by rfl, ?_⟩) (by assumption) ?_
  rotate_left
  · intro w hSw; (try dsimp only at hSw); go_simp; (try (with_reducible rfl)); done
  simp only [Act.put, List.setIfInBounds_toArray]; dsimp only [List.set_cons_zero, List.set_cons_succ]
  refine wpAnyH_take (i := 11) (oi := ⟨_, _, _, _, _, _⟩) (v := ?_) rfl (by kernel_rfl) (by kernel_rfl) (by kernel_rfl) (fun _ _ _ h => h) (Or.inl ⟨by rfl, ?_⟩) (by assumption) ?_
  rotate_left
  · intro w hSw; (try dsimp only at hSw); go_simp; (try (with_reducible rfl)); done
  simp only [Act.put, List.setIfInBounds_toArray]; dsimp only [List.set_cons_zero, List.set_cons_succ]
  refine wpAnyH_take (i := 12) (oi := ⟨_, _, _, _, _, _⟩) (v := ?_) rfl (by kernel_rfl) (by kernel_rfl) (by kernel_rfl) (fun _ _ _ h => h) (Or.inl ⟨by rfl, ?_⟩) (by assumption) ?_
  rotate_left
  · intro w hSw; (try dsimp only at hSw); go_simp; (try (with_reducible rfl)); done
  simp only [Act.put, List.setIfInBounds_toArray]; dsimp only [List.set_cons_zero, List.set_cons_succ]
  refine wpAnyH_take (i := 13) (oi := ⟨_, _, _, _, _, _⟩) (v := ?_) rfl (by kernel_rfl) (by kernel_rfl) (by kernel_rfl) (fun _ _ _ h => h) (Or.inl ⟨by rfl, ?_⟩) (by assumption) ?_
  rotate_left
  · intro w hSw; (try dsimp only at hSw); go_simp; (try (with_reducible rfl)); done
  simp only [Act.put, List.setIfInBounds_toArray]; dsimp only [List.set_cons_zero, List.set_cons_succ]
  refine wpAnyH_ready (rs := [14]) (by kernel_rfl) (by simp) ?_
  refine AllReadyH.cons (o := ⟨_, _, _, _, _, _⟩) rfl (fun K hK => ?_) AllReadyH.nil
  go_simp
  (refine (HO1.out _).mono ?_; rintro e w5 ⟨rfl, f5⟩)
  refine hK.out _ _ ?_ (fun hHeld => ?_)
  · ((try dsimp only) <;> (first | exact ⟨⟨s1, s2⟩, F4.drew⟩ | exact ⟨⟨f5.keeps (fun f => f) hHeld.1.1, f5.keeps (fun f => f) hHeld.1.2⟩, hHeld.2.trans' f5⟩))
  clear hK K
  try (simp only [Act.put, List.setIfInBounds_toArray]; dsimp only [List.set_cons_zero, List.set_cons_succ])
  refine wpAnyH_take (i := 15) (oi := ⟨_, _, _, _, _, _⟩) (v := ?_) rfl (by kernel_rfl) (by kernel_rfl) (by kernel_rfl) (fun _ _ _ h => h) (Or.inl ⟨by rfl, ?_⟩) (by assumption) ?_
  rotate_left
  · intro w hSw; (try dsimp only at hSw); go_simp; (try (with_reducible rfl)); done
  simp only [Act.put, List.setIfInBounds_toArray]; dsimp only [List.set_cons_zero, List.set_cons_succ]
  refine wpAnyH_take (i := 16) (oi := ⟨_, _, _, _, _, _⟩) (v := ?_) rfl (by kernel_rfl) (by kernel_rfl) (by kernel_rfl) (fun _ _ _ h => h) (Or.inl ⟨by rfl, ?_⟩) (by assumption) ?_
  rotate_left
  · intro w hSw; (try dsimp only at hSw); go_simp; (try (with_reducible rfl)); done
  simp only [Act.put, List.setIfInBounds_toArray]; dsimp only [List.set_cons_zero, List.set_cons_succ]
  refine wpAnyH_take (i := 17) (oi := ⟨_, _, _, _, _, _⟩) (v := ?_) rfl (by kernel_rfl) (by kernel_rfl) (by kernel_rfl) (fun _ _ _ h => h) (Or.inl ⟨by rfl, ?_⟩) (by assumption) ?_
  rotate_left
  · intro w hSw; (try dsimp only at hSw); go_simp; (try (with_reducible rfl)); done
  simp only [Act.put, List.setIfInBounds_toArray]; dsimp only [List.set_cons_zero, List.set_cons_succ]
  refine wpAnyH_done (by kernel_rfl) ?_ _
  refine NoPanic.normal ?_
  all_goals
    go_wp2
    go_ret
    exact ⟨rfl, hHeld.2⟩
end Go.Proofs.Ytmebilpmhflahaa
