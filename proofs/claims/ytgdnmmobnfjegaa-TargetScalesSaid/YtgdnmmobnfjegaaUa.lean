/- Layer 6 (target): moved, Meets, Decode. -/
import Derived.Test.YtgdnmmobnfjegaaTk
namespace Go.Proofs.Ytgdnmmobnfjegaa
set_option linter.unusedVariables false
set_option linter.unusedSimpArgs false
open Go.RowKit

theorem tmoved_any (e : Nat) (he : e ≤ 255) (w : World) :
    Calls Try.prog 30 #[.int .i64 (e : Int)] w fun o w' => o = .returned (.int .i64 (8 * ((e : Int) - 3))) ∧ w' = w := by
  have e1 : IntKind.i64.wrap ((e : Int) - 3) = (e : Int) - 3 := IntWalk.i64_in _ (by omega)
  have e2 : IntKind.i64.wrap (8 * ((e : Int) - 3)) = 8 * ((e : Int) - 3) := IntWalk.i64_in _ (by omega)
  clear he
  go_enter Try.func30, Try.ntmps30
  go_wp2_with fail
  go_ret
  exact ⟨rfl, rfl⟩

theorem sgn_le (x y : Nat) : (sgn x y ≤ 0) ↔ x ≤ y := by
  unfold sgn
  by_cases h1 : x < y
  · rw [if_pos h1]; omega
  · rw [if_neg h1]
    by_cases h2 : y < x
    · rw [if_pos h2]; omega
    · rw [if_neg h2]; omega

set_option maxRecDepth 100000 in
set_option maxHeartbeats 2000000 in
theorem meetsC : MeetsC := by
  intro h t o hh ht ho w
  have HF := Lib.hid (wFromBytes_any h hh)
  have HC := Lib.hid (wCmp_any h t hh ht)
  have hle : decide (sgn h t ≤ 0) = o := by rw [← ho]; exact decide_eq_decide.2 (sgn_le h t)
  generalize sgn h t = s at *
  clear hh ht ho
  go_enter Try.func8, Try.ntmps8
  go_wp2_with fail
  obtain ⟨W1, hW1⟩ : ∃ W, W = (w.alloc (.cells (rowN .u8 8 32 h) 26)).alloc (.cells (rowN .u64 64 4 t) 24) := ⟨_, rfl⟩
  obtain ⟨r1, r2⟩ := heap2 w (.cells (rowN .u8 8 32 h) 26) (.cells (rowN .u64 64 4 t) 24)
  have F : Fr F0 w W1 := by rw [hW1]; exact ((Fr.refl _ _).alloc _).alloc _
  rw [← hW1] at r1 r2
  refine wp_of_world W1 hW1 ?_
  clear hW1
  generalize w.heap.size + 1 = g2 at *
  generalize w.heap.size = g1 at *
  refine wp_region_noPanic ?_
  refine wp_region_held_drew (S := (fun w' => (w'.heap[g1]? = some (.cells (rowN .u8 8 32 h) 26 (0, 0)) ∧ w'.heap[g2]? = some (.cells (rowN .u64 64 4 t) 24 (0, 0))) ∧ Fr F0 w w')) (by kernel_rfl) ?_ (fun hHeld => ?_)
  · ((try dsimp only) <;> (first | exact ⟨⟨r1, r2⟩, F.drew⟩ | exact hHeld | exact ⟨⟨keep_fr f5 hHeld.1.1, keep_fr f5 hHeld.1.2⟩, hHeld.2.trans' f5⟩))
  refine wpAnyH_take (i := 0) (oi := ⟨_, _, _, _, _, _⟩) (v := ?_) rfl (by kernel_rfl) (by kernel_rfl) (by kernel_rfl) (fun _ _ _ h => h) (Or.inl ⟨by rfl, ?_⟩) (by assumption) ?_
  rotate_left
  · intro w hSw; (try dsimp only at hSw); go_simp; (try (with_reducible rfl)); done
  simp only [Act.put, List.setIfInBounds_toArray]; dsimp only [List.set_cons_zero, List.set_cons_succ]
  refine wpAnyH_take (i := 2) (oi := ⟨_, _, _, _, _, _⟩) (v := ?_) rfl (by kernel_rfl) (by kernel_rfl) (by kernel_rfl) (fun _ _ _ h => h) (Or.inl ⟨by rfl, ?_⟩) (by assumption) ?_
  rotate_left
  · intro w hSw; (try dsimp only at hSw); go_simp; (try (with_reducible rfl)); done
  simp only [Act.put, List.setIfInBounds_toArray]; dsimp only [List.set_cons_zero, List.set_cons_succ]
  refine wpAnyH_ready (rs := [1]) (by kernel_rfl) (by simp) ?_
  refine AllReadyH.cons (o := ⟨_, _, _, _, _, _⟩) rfl (fun K hK => ?_) AllReadyH.nil
  go_simp
  ((with_reducible refine (HF.out _).mono ?_); rintro e w5 ⟨rfl, f5⟩)
  refine hK.out _ _ ?_ (fun hHeld => ?_)
  · ((try dsimp only) <;> (first | exact ⟨⟨r1, r2⟩, F.drew⟩ | exact hHeld | exact ⟨⟨keep_fr f5 hHeld.1.1, keep_fr f5 hHeld.1.2⟩, hHeld.2.trans' f5⟩))
  clear hK K
  try (simp only [Act.put, List.setIfInBounds_toArray]; dsimp only [List.set_cons_zero, List.set_cons_succ])
  refine wpAnyH_ready (rs := [3]) (by kernel_rfl) (by simp) ?_
  refine AllReadyH.cons (o := ⟨_, _, _, _, _, _⟩) rfl (fun K hK => ?_) AllReadyH.nil
  go_simp
  ((with_reducible refine (HC.out _).mono ?_); rintro e w5 ⟨rfl, f5⟩)
  refine hK.out _ _ ?_ (fun hHeld => ?_)
  · ((try dsimp only) <;> (first | exact ⟨⟨r1, r2⟩, F.drew⟩ | exact hHeld | exact ⟨⟨keep_fr f5 hHeld.1.1, keep_fr f5 hHeld.1.2⟩, hHeld.2.trans' f5⟩))
  clear hK K
  try (simp only [Act.put, List.setIfInBounds_toArray]; dsimp only [List.set_cons_zero, List.set_cons_succ])
  refine wpAnyH_take (i := 4) (oi := ⟨_, _, _, _, _, _⟩) (v := ?_) rfl (by kernel_rfl) (by kernel_rfl) (by kernel_rfl) (fun _ _ _ h => h) (Or.inl ⟨by rfl, ?_⟩) (by assumption) ?_
  rotate_left
  · intro w hSw; (try dsimp only at hSw); go_simp; (try (with_reducible rfl)); done
  simp only [Act.put, List.setIfInBounds_toArray]; dsimp only [List.set_cons_zero, List.set_cons_succ]
  refine wpAnyH_take (i := 5) (oi := ⟨_, _, _, _, _, _⟩) (v := ?_) rfl (by kernel_rfl) (by kernel_rfl) (by kernel_rfl) (fun _ _ _ h => h) (Or.inl ⟨by rfl, ?_⟩) (by assumption) ?_
  rotate_left
  · intro w hSw; (try dsimp only at hSw); go_simp; (try (with_reducible rfl)); done
  simp only [Act.put, List.setIfInBounds_toArray]; dsimp only [List.set_cons_zero, List.set_cons_succ]
  refine wpAnyH_done (by kernel_rfl) ?_ _
  refine NoPanic.normal ?_
  all_goals
    go_wp2
    go_ret
    exact ⟨rfl, hHeld.2⟩
end Go.Proofs.Ytgdnmmobnfjegaa
