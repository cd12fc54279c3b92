/- Layer 6's law TargetOrder, walked. -/
import Derived.Test.YtgdnmmobnfjegaaTk
namespace Go.Proofs.Ytgdnmmobnfjegaa
set_option linter.unusedVariables false
set_option linter.unusedSimpArgs false
open Go.RowKit

set_option maxRecDepth 100000 in
set_option maxHeartbeats 8000000 in
theorem targetOrder_any (HD : DecC) (HW : WorkC) (HM : MeetsC) (t u h : Nat) (ht : t < W256) (hu : u < W256) (hh : h < W256) (w : World) :
    Calls Try.prog 3 #[.agg (rowN .u64 64 4 t), .agg (rowN .u64 64 4 u), .agg (rowN .u8 8 32 h)] w fun e w' => e = .returned (.bool true) ∧ Fr F0 w w' := by
  have HL := Lib.hid (lives06_any HD HW)
  obtain ⟨o1, ho1⟩ : ∃ o, decide (h ≤ t) = o := ⟨_, rfl⟩
  obtain ⟨o2, ho2⟩ : ∃ o, decide (h ≤ u) = o := ⟨_, rfl⟩
  have H1 := Lib.hid (HM h t o1 hh ht ho1)
  have H2 := Lib.hid (HM h u o2 hh hu ho2)
  have H3 := Lib.hid (wCmp_any t u ht hu)
  have hN0 : W256 - 1 - 0 < W256 := by have := word_w (x := 1) (by omega); omega
  have H4 := Lib.hid (wNot_any 0 (word_w (by omega)))
  have H5 := Lib.hid (HM h (W256 - 1 - 0) true hh hN0 (decide_eq_true (by omega)))
  have H6 := Lib.hid (wBytes_any t ht)
  have H7 := Lib.hid (HM t t true ht ht (decide_eq_true (Nat.le_refl _)))
  have hcase : o1 = false ∨ (o1 = true ∧ ¬ sgn t u ≤ 0) ∨ (o1 = true ∧ sgn t u ≤ 0 ∧ o2 = true) := by
    rw [← ho1, ← ho2, decide_eq_false_iff_not, decide_eq_true_iff, decide_eq_true_iff]
    unfold sgn
    by_cases h1 : h ≤ t
    · right
      by_cases h2 : u < t
      · exact .inl ⟨h1, by rw [if_neg (by omega), if_pos h2]; omega⟩
      · exact .inr ⟨h1, by split <;> omega, by omega⟩
    · exact .inl h1
  have HC := Lib.hid hcase
  clear hcase ho1 ho2 ht hu hh HD HW HM hN0
  generalize sgn t u = s at *
  generalize W256 - 1 - 0 = N0 at *
  go_enter Try.func3, Try.ntmps3
  go_wp2_with fail
  obtain ⟨W0, hW0⟩ : ∃ W, W = ((w.alloc (.cells (rowN .u64 64 4 t) 24)).alloc (.cells (rowN .u64 64 4 u) 24)).alloc (.cells (rowN .u8 8 32 h) 26) := ⟨_, rfl⟩
  refine Calls.of_world W0 hW0 ?_
  obtain ⟨r0, r1, r2⟩ := heap3 w (.cells (rowN .u64 64 4 t) 24) (.cells (rowN .u64 64 4 u) 24) (.cells (rowN .u8 8 32 h) 26)
  rw [← hW0] at r0 r1 r2
  have F : Fr F0 w W0 := by rw [hW0]; exact (((Fr.refl F0 w).alloc _).alloc _).alloc _
  clear hW0
  generalize hg2 : w.heap.size + 1 + 1 = g2 at *
  generalize hg1 : w.heap.size + 1 = g1 at *
  generalize hg0 : w.heap.size = g0 at *
  clear hg2 hg1 hg0
  (with_reducible refine (HL.out _).mono ?_); rintro e w1 ⟨rfl, f⟩
  replace F := F.trans' f
  replace r0 := keep_fr f r0
  replace r1 := keep_fr f r1
  replace r2 := keep_fr f r2
  clear f
  go_wp2_with fail
  (with_reducible refine (H1.out _).mono ?_); rintro e w2 ⟨rfl, f⟩
  replace F := F.trans' f
  replace r0 := keep_fr f r0
  replace r1 := keep_fr f r1
  replace r2 := keep_fr f r2
  clear f
  rcases HC.out with rfl | ⟨rfl, hs⟩ | ⟨rfl, hs, rfl⟩
  · go_wp2_with fail
    refine wp_region_noPanic ?_
    refine wp_region_held_drew (S := (fun w' => (w'.heap[g0]? = some (.cells (rowN .u64 64 4 t) 24 (0, 0)) ∧ w'.heap[g2]? = some (.cells (rowN .u8 8 32 h) 26 (0, 0))) ∧ Fr F0 w w')) (by kernel_rfl) ?_ (fun hHeld => ?_)
    · ((try dsimp only) <;> (first | exact ⟨⟨r0, r2⟩, F.drew⟩ | exact hHeld | exact ⟨⟨keep_fr f5 hHeld.1.1, keep_fr f5 hHeld.1.2⟩, hHeld.2.trans' f5⟩))
    refine wpAnyH_take (i := 0) (oi := ⟨_, _, _, _, _, _⟩) (v := ?_) rfl (by kernel_rfl) (by kernel_rfl) (by kernel_rfl) (fun _ _ _ h => h) (Or.inl ⟨by rfl, ?_⟩) (by assumption) ?_
    rotate_left
    · intro w hSw; (try dsimp only at hSw); go_simp; (try (with_reducible rfl)); done
    simp only [Act.put, List.setIfInBounds_toArray]; dsimp only [List.set_cons_zero, List.set_cons_succ]
    refine wpAnyH_take (i := 1) (oi := ⟨_, _, _, _, _, _⟩) (v := ?_) rfl (by kernel_rfl) (by kernel_rfl) (by kernel_rfl) (fun _ _ _ h => h) (Or.inl ⟨by rfl, ?_⟩) (by assumption) ?_
    rotate_left
    · intro w hSw; (try dsimp only at hSw); go_simp; (try (with_reducible rfl)); done
    simp only [Act.put, List.setIfInBounds_toArray]; dsimp only [List.set_cons_zero, List.set_cons_succ]
    refine wpAnyH_ready (rs := [2]) (by kernel_rfl) (by simp) ?_
    refine AllReadyH.cons (o := ⟨_, _, _, _, _, _⟩) rfl (fun K hK => ?_) AllReadyH.nil
    go_simp
    ((with_reducible refine (H4.out _).mono ?_); rintro e w5 ⟨rfl, f5⟩)
    refine hK.out _ _ ?_ (fun hHeld => ?_)
    · ((try dsimp only) <;> (first | exact ⟨⟨r0, r2⟩, F.drew⟩ | exact hHeld | exact ⟨⟨keep_fr f5 hHeld.1.1, keep_fr f5 hHeld.1.2⟩, hHeld.2.trans' f5⟩))
    clear hK K
    try (simp only [Act.put, List.setIfInBounds_toArray]; dsimp only [List.set_cons_zero, List.set_cons_succ])
    refine wpAnyH_ready (rs := [3]) (by kernel_rfl) (by simp) ?_
    refine AllReadyH.cons (o := ⟨_, _, _, _, _, _⟩) rfl (fun K hK => ?_) AllReadyH.nil
    go_simp
    ((with_reducible refine (H5.out _).mono ?_); rintro e w5 ⟨rfl, f5⟩)
    refine hK.out _ _ ?_ (fun hHeld => ?_)
    · ((try dsimp only) <;> (first | exact ⟨⟨r0, r2⟩, F.drew⟩ | exact hHeld | exact ⟨⟨keep_fr f5 hHeld.1.1, keep_fr f5 hHeld.1.2⟩, hHeld.2.trans' f5⟩))
    clear hK K
    try (simp only [Act.put, List.setIfInBounds_toArray]; dsimp only [List.set_cons_zero, List.set_cons_succ])
    refine wpAnyH_take (i := 4) (oi := ⟨_, _, _, _, _, _⟩) (v := ?_) rfl (by kernel_rfl) (by kernel_rfl) (by kernel_rfl) (fun _ _ _ h => h) (Or.inl ⟨by rfl, ?_⟩) (by assumption) ?_
    rotate_left
    · intro w hSw; (try dsimp only at hSw); go_simp; (try (with_reducible rfl)); done
    simp only [Act.put, List.setIfInBounds_toArray]; dsimp only [List.set_cons_zero, List.set_cons_succ]
    refine wpAnyH_take (i := 5) (oi := ⟨_, _, _, _, _, _⟩) (v := ?_) rfl (by kernel_rfl) (by kernel_rfl) (by kernel_rfl) (fun _ _ _ h => h) (Or.inl ⟨by rfl, ?_⟩) (by assumption) ?_
    rotate_left
    · intro w hSw; (try dsimp only at hSw); go_simp; (try (with_reducible rfl)); done
    simp only [Act.put, List.setIfInBounds_toArray]; dsimp only [List.set_cons_zero, List.set_cons_succ]
    refine wpAnyH_take (i := 7) (oi := ⟨_, _, _, _, _, _⟩) (v := ?_) rfl (by kernel_rfl) (by kernel_rfl) (by kernel_rfl) (fun _ _ _ h => h) (Or.inl ⟨by rfl, ?_⟩) (by assumption) ?_
    rotate_left
    · intro w hSw; (try dsimp only at hSw); go_simp; (try (with_reducible rfl)); done
    simp only [Act.put, List.setIfInBounds_toArray]; dsimp only [List.set_cons_zero, List.set_cons_succ]
    refine wpAnyH_ready (rs := [6]) (by kernel_rfl) (by simp) ?_
    refine AllReadyH.cons (o := ⟨_, _, _, _, _, _⟩) rfl (fun K hK => ?_) AllReadyH.nil
    go_simp
    ((with_reducible refine (H6.out _).mono ?_); rintro e w5 ⟨rfl, f5⟩)
    refine hK.out _ _ ?_ (fun hHeld => ?_)
    · ((try dsimp only) <;> (first | exact ⟨⟨r0, r2⟩, F.drew⟩ | exact hHeld | exact ⟨⟨keep_fr f5 hHeld.1.1, keep_fr f5 hHeld.1.2⟩, hHeld.2.trans' f5⟩))
    clear hK K
    try (simp only [Act.put, List.setIfInBounds_toArray]; dsimp only [List.set_cons_zero, List.set_cons_succ])
    refine wpAnyH_ready (rs := [8]) (by kernel_rfl) (by simp) ?_
    refine AllReadyH.cons (o := ⟨_, _, _, _, _, _⟩) rfl (fun K hK => ?_) AllReadyH.nil
    go_simp
    ((with_reducible refine (H7.out _).mono ?_); rintro e w5 ⟨rfl, f5⟩)
    refine hK.out _ _ ?_ (fun hHeld => ?_)
    · ((try dsimp only) <;> (first | exact ⟨⟨r0, r2⟩, F.drew⟩ | exact hHeld | exact ⟨⟨keep_fr f5 hHeld.1.1, keep_fr f5 hHeld.1.2⟩, hHeld.2.trans' f5⟩))
    clear hK K
    try (simp only [Act.put, List.setIfInBounds_toArray]; dsimp only [List.set_cons_zero, List.set_cons_succ])
    refine wpAnyH_take (i := 9) (oi := ⟨_, _, _, _, _, _⟩) (v := ?_) rfl (by kernel_rfl) (by kernel_rfl) (by kernel_rfl) (fun _ _ _ h => h) (Or.inl ⟨by rfl, ?_⟩) (by assumption) ?_
    rotate_left
    · intro w hSw; (try dsimp only at hSw); go_simp; (try (with_reducible rfl)); done
    simp only [Act.put, List.setIfInBounds_toArray]; dsimp only [List.set_cons_zero, List.set_cons_succ]
    refine wpAnyH_take (i := 10) (oi := ⟨_, _, _, _, _, _⟩) (v := ?_) rfl (by kernel_rfl) (by kernel_rfl) (by kernel_rfl) (fun _ _ _ h => h) (Or.inl ⟨by rfl, ?_⟩) (by assumption) ?_
    rotate_left
    · intro w hSw; (try dsimp only at hSw); go_simp; (try (with_reducible rfl)); done
    simp only [Act.put, List.setIfInBounds_toArray]; dsimp only [List.set_cons_zero, List.set_cons_succ]
    refine wpAnyH_done (by kernel_rfl) ?_ _
    refine NoPanic.normal ?_
    all_goals
      go_wp2
      go_ret
      exact ⟨rfl, hHeld.2⟩
  · go_wp2_with fail
    (with_reducible refine (H3.out _).mono ?_); rintro e w3 ⟨rfl, f⟩
    replace F := F.trans' f
    replace r0 := keep_fr f r0
    replace r1 := keep_fr f r1
    replace r2 := keep_fr f r2
    clear f
    go_wp2_with fail
    refine wp_region_noPanic ?_
    refine wp_region_held_drew (S := (fun w' => (w'.heap[g0]? = some (.cells (rowN .u64 64 4 t) 24 (0, 0)) ∧ w'.heap[g2]? = some (.cells (rowN .u8 8 32 h) 26 (0, 0))) ∧ Fr F0 w w')) (by kernel_rfl) ?_ (fun hHeld => ?_)
    · ((try dsimp only) <;> (first | exact ⟨⟨r0, r2⟩, F.drew⟩ | exact hHeld | exact ⟨⟨keep_fr f5 hHeld.1.1, keep_fr f5 hHeld.1.2⟩, hHeld.2.trans' f5⟩))
    refine wpAnyH_take (i := 0) (oi := ⟨_, _, _, _, _, _⟩) (v := ?_) rfl (by kernel_rfl) (by kernel_rfl) (by kernel_rfl) (fun _ _ _ h => h) (Or.inl ⟨by rfl, ?_⟩) (by assumption) ?_
    rotate_left
    · intro w hSw; (try dsimp only at hSw); go_simp; (try (with_reducible rfl)); done
    simp only [Act.put, List.setIfInBounds_toArray]; dsimp only [List.set_cons_zero, List.set_cons_succ]
    refine wpAnyH_take (i := 1) (oi := ⟨_, _, _, _, _, _⟩) (v := ?_) rfl (by kernel_rfl) (by kernel_rfl) (by kernel_rfl) (fun _ _ _ h => h) (Or.inl ⟨by rfl, ?_⟩) (by assumption) ?_
    rotate_left
    · intro w hSw; (try dsimp only at hSw); go_simp; (try (with_reducible rfl)); done
    simp only [Act.put, List.setIfInBounds_toArray]; dsimp only [List.set_cons_zero, List.set_cons_succ]
    refine wpAnyH_ready (rs := [2]) (by kernel_rfl) (by simp) ?_
    refine AllReadyH.cons (o := ⟨_, _, _, _, _, _⟩) rfl (fun K hK => ?_) AllReadyH.nil
    go_simp
    ((with_reducible refine (H4.out _).mono ?_); rintro e w5 ⟨rfl, f5⟩)
    refine hK.out _ _ ?_ (fun hHeld => ?_)
    · ((try dsimp only) <;> (first | exact ⟨⟨r0, r2⟩, F.drew⟩ | exact hHeld | exact ⟨⟨keep_fr f5 hHeld.1.1, keep_fr f5 hHeld.1.2⟩, hHeld.2.trans' f5⟩))
    clear hK K
    try (simp only [Act.put, List.setIfInBounds_toArray]; dsimp only [List.set_cons_zero, List.set_cons_succ])
    refine wpAnyH_ready (rs := [3]) (by kernel_rfl) (by simp) ?_
    refine AllReadyH.cons (o := ⟨_, _, _, _, _, _⟩) rfl (fun K hK => ?_) AllReadyH.nil
    go_simp
    ((with_reducible refine (H5.out _).mono ?_); rintro e w5 ⟨rfl, f5⟩)
    refine hK.out _ _ ?_ (fun hHeld => ?_)
    · ((try dsimp only) <;> (first | exact ⟨⟨r0, r2⟩, F.drew⟩ | exact hHeld | exact ⟨⟨keep_fr f5 hHeld.1.1, keep_fr f5 hHeld.1.2⟩, hHeld.2.trans' f5⟩))
    clear hK K
    try (simp only [Act.put, List.setIfInBounds_toArray]; dsimp only [List.set_cons_zero, List.set_cons_succ])
    refine wpAnyH_take (i := 4) (oi := ⟨_, _, _, _, _, _⟩) (v := ?_) rfl (by kernel_rfl) (by kernel_rfl) (by kernel_rfl) (fun _ _ _ h => h) (Or.inl ⟨by rfl, ?_⟩) (by assumption) ?_
    rotate_left
    · intro w hSw; (try dsimp only at hSw); go_simp; (try (with_reducible rfl)); done
    simp only [Act.put, List.setIfInBounds_toArray]; dsimp only [List.set_cons_zero, List.set_cons_succ]
    refine wpAnyH_take (i := 5) (oi := ⟨_, _, _, _, _, _⟩) (v := ?_) rfl (by kernel_rfl) (by kernel_rfl) (by kernel_rfl) (fun _ _ _ h => h) (Or.inl ⟨by rfl, ?_⟩) (by assumption) ?_
    rotate_left
    · intro w hSw; (try dsimp only at hSw); go_simp; (try (with_reducible rfl)); done
    simp only [Act.put, List.setIfInBounds_toArray]; dsimp only [List.set_cons_zero, List.set_cons_succ]
    refine wpAnyH_take (i := 7) (oi := ⟨_, _, _, _, _, _⟩) (v := ?_) rfl (by kernel_rfl) (by kernel_rfl) (by kernel_rfl) (fun _ _ _ h => h) (Or.inl ⟨by rfl, ?_⟩) (by assumption) ?_
    rotate_left
    · intro w hSw; (try dsimp only at hSw); go_simp; (try (with_reducible rfl)); done
    simp only [Act.put, List.setIfInBounds_toArray]; dsimp only [List.set_cons_zero, List.set_cons_succ]
    refine wpAnyH_ready (rs := [6]) (by kernel_rfl) (by simp) ?_
    refine AllReadyH.cons (o := ⟨_, _, _, _, _, _⟩) rfl (fun K hK => ?_) AllReadyH.nil
    go_simp
    ((with_reducible refine (H6.out _).mono ?_); rintro e w5 ⟨rfl, f5⟩)
    refine hK.out _ _ ?_ (fun hHeld => ?_)
    · ((try dsimp only) <;> (first | exact ⟨⟨r0, r2⟩, F.drew⟩ | exact hHeld | exact ⟨⟨keep_fr f5 hHeld.1.1, keep_fr f5 hHeld.1.2⟩, hHeld.2.trans' f5⟩))
    clear hK K
    try (simp only [Act.put, List.setIfInBounds_toArray]; dsimp only [List.set_cons_zero, List.set_cons_succ])
    refine wpAnyH_ready (rs := [8]) (by kernel_rfl) (by simp) ?_
    refine AllReadyH.cons (o := ⟨_, _, _, _, _, _⟩) rfl (fun K hK => ?_) AllReadyH.nil
    go_simp
    ((with_reducible refine (H7.out _).mono ?_); rintro e w5 ⟨rfl, f5⟩)
    refine hK.out _ _ ?_ (fun hHeld => ?_)
    · ((try dsimp only) <;> (first | exact ⟨⟨r0, r2⟩, F.drew⟩ | exact hHeld | exact ⟨⟨keep_fr f5 hHeld.1.1, keep_fr f5 hHeld.1.2⟩, hHeld.2.trans' f5⟩))
    clear hK K
    try (simp only [Act.put, List.setIfInBounds_toArray]; dsimp only [List.set_cons_zero, List.set_cons_succ])
    refine wpAnyH_take (i := 9) (oi := ⟨_, _, _, _, _, _⟩) (v := ?_) rfl (by kernel_rfl) (by kernel_rfl) (by kernel_rfl) (fun _ _ _ h => h) (Or.inl ⟨by rfl, ?_⟩) (by assumption) ?_
    rotate_left
    · intro w hSw; (try dsimp only at hSw); go_simp; (try (with_reducible rfl)); done
    simp only [Act.put, List.setIfInBounds_toArray]; dsimp only [List.set_cons_zero, List.set_cons_succ]
    refine wpAnyH_take (i := 10) (oi := ⟨_, _, _, _, _, _⟩) (v := ?_) rfl (by kernel_rfl) (by kernel_rfl) (by kernel_rfl) (fun _ _ _ h => h) (Or.inl ⟨by rfl, ?_⟩) (by assumption) ?_
    rotate_left
    · intro w hSw; (try dsimp only at hSw); go_simp; (try (with_reducible rfl)); done
    simp only [Act.put, List.setIfInBounds_toArray]; dsimp only [List.set_cons_zero, List.set_cons_succ]
    refine wpAnyH_done (by kernel_rfl) ?_ _
    refine NoPanic.normal ?_
    all_goals
      go_wp2
      go_ret
      exact ⟨rfl, hHeld.2⟩
  · go_wp2_with fail
    (with_reducible refine (H3.out _).mono ?_); rintro e w3 ⟨rfl, f⟩
    replace F := F.trans' f
    replace r0 := keep_fr f r0
    replace r1 := keep_fr f r1
    replace r2 := keep_fr f r2
    clear f
    go_wp2_with fail
    (with_reducible refine (H2.out _).mono ?_); rintro e w4 ⟨rfl, f⟩
    replace F := F.trans' f
    replace r0 := keep_fr f r0
    replace r1 := keep_fr f r1
    replace r2 := keep_fr f r2
    clear f
    go_wp2_with fail
    refine wp_region_noPanic ?_
    refine wp_region_held_drew (S := (fun w' => (w'.heap[g0]? = some (.cells (rowN .u64 64 4 t) 24 (0, 0)) ∧ w'.heap[g2]? = some (.cells (rowN .u8 8 32 h) 26 (0, 0))) ∧ Fr F0 w w')) (by kernel_rfl) ?_ (fun hHeld => ?_)
    · ((try dsimp only) <;> (first | exact ⟨⟨r0, r2⟩, F.drew⟩ | exact hHeld | exact ⟨⟨keep_fr f5 hHeld.1.1, keep_fr f5 hHeld.1.2⟩, hHeld.2.trans' f5⟩))
    refine wpAnyH_take (i := 0) (oi := ⟨_, _, _, _, _, _⟩) (v := ?_) rfl (by kernel_rfl) (by kernel_rfl) (by kernel_rfl) (fun _ _ _ h => h) (Or.inl ⟨by rfl, ?_⟩) (by assumption) ?_
    rotate_left
    · intro w hSw; (try dsimp only at hSw); go_simp; (try (with_reducible rfl)); done
    simp only [Act.put, List.setIfInBounds_toArray]; dsimp only [List.set_cons_zero, List.set_cons_succ]
    refine wpAnyH_take (i := 1) (oi := ⟨_, _, _, _, _, _⟩) (v := ?_) rfl (by kernel_rfl) (by kernel_rfl) (by kernel_rfl) (fun _ _ _ h => h) (Or.inl ⟨by rfl, ?_⟩) (by assumption) ?_
    rotate_left
    · intro w hSw; (try dsimp only at hSw); go_simp; (try (with_reducible rfl)); done
    simp only [Act.put, List.setIfInBounds_toArray]; dsimp only [List.set_cons_zero, List.set_cons_succ]
    refine wpAnyH_ready (rs := [2]) (by kernel_rfl) (by simp) ?_
    refine AllReadyH.cons (o := ⟨_, _, _, _, _, _⟩) rfl (fun K hK => ?_) AllReadyH.nil
    go_simp
    ((with_reducible refine (H4.out _).mono ?_); rintro e w5 ⟨rfl, f5⟩)
    refine hK.out _ _ ?_ (fun hHeld => ?_)
    · ((try dsimp only) <;> (first | exact ⟨⟨r0, r2⟩, F.drew⟩ | exact hHeld | exact ⟨⟨keep_fr f5 hHeld.1.1, keep_fr f5 hHeld.1.2⟩, hHeld.2.trans' f5⟩))
    clear hK K
    try (simp only [Act.put, List.setIfInBounds_toArray]; dsimp only [List.set_cons_zero, List.set_cons_succ])
    refine wpAnyH_ready (rs := [3]) (by kernel_rfl) (by simp) ?_
    refine AllReadyH.cons (o := ⟨_, _, _, _, _, _⟩) rfl (fun K hK => ?_) AllReadyH.nil
    go_simp
    ((with_reducible refine (H5.out _).mono ?_); rintro e w5 ⟨rfl, f5⟩)
    refine hK.out _ _ ?_ (fun hHeld => ?_)
    · ((try dsimp only) <;> (first | exact ⟨⟨r0, r2⟩, F.drew⟩ | exact hHeld | exact ⟨⟨keep_fr f5 hHeld.1.1, keep_fr f5 hHeld.1.2⟩, hHeld.2.trans' f5⟩))
    clear hK K
    try (simp only [Act.put, List.setIfInBounds_toArray]; dsimp only [List.set_cons_zero, List.set_cons_succ])
    refine wpAnyH_take (i := 4) (oi := ⟨_, _, _, _, _, _⟩) (v := ?_) rfl (by kernel_rfl) (by kernel_rfl) (by kernel_rfl) (fun _ _ _ h => h) (Or.inl ⟨by rfl, ?_⟩) (by assumption) ?_
    rotate_left
    · intro w hSw; (try dsimp only at hSw); go_simp; (try (with_reducible rfl)); done
    simp only [Act.put, List.setIfInBounds_toArray]; dsimp only [List.set_cons_zero, List.set_cons_succ]
    refine wpAnyH_take (i := 5) (oi := ⟨_, _, _, _, _, _⟩) (v := ?_) rfl (by kernel_rfl) (by kernel_rfl) (by kernel_rfl) (fun _ _ _ h => h) (Or.inl ⟨by rfl, ?_⟩) (by assumption) ?_
    rotate_left
    · intro w hSw; (try dsimp only at hSw); go_simp; (try (with_reducible rfl)); done
    simp only [Act.put, List.setIfInBounds_toArray]; dsimp only [List.set_cons_zero, List.set_cons_succ]
    refine wpAnyH_take (i := 7) (oi := ⟨_, _, _, _, _, _⟩) (v := ?_) rfl (by kernel_rfl) (by kernel_rfl) (by kernel_rfl) (fun _ _ _ h => h) (Or.inl ⟨by rfl, ?_⟩) (by assumption) ?_
    rotate_left
    · intro w hSw; (try dsimp only at hSw); go_simp; (try (with_reducible rfl)); done
    simp only [Act.put, List.setIfInBounds_toArray]; dsimp only [List.set_cons_zero, List.set_cons_succ]
    refine wpAnyH_ready (rs := [6]) (by kernel_rfl) (by simp) ?_
    refine AllReadyH.cons (o := ⟨_, _, _, _, _, _⟩) rfl (fun K hK => ?_) AllReadyH.nil
    go_simp
    ((with_reducible refine (H6.out _).mono ?_); rintro e w5 ⟨rfl, f5⟩)
    refine hK.out _ _ ?_ (fun hHeld => ?_)
    · ((try dsimp only) <;> (first | exact ⟨⟨r0, r2⟩, F.drew⟩ | exact hHeld | exact ⟨⟨keep_fr f5 hHeld.1.1, keep_fr f5 hHeld.1.2⟩, hHeld.2.trans' f5⟩))
    clear hK K
    try (simp only [Act.put, List.setIfInBounds_toArray]; dsimp only [List.set_cons_zero, List.set_cons_succ])
    refine wpAnyH_ready (rs := [8]) (by kernel_rfl) (by simp) ?_
    refine AllReadyH.cons (o := ⟨_, _, _, _, _, _⟩) rfl (fun K hK => ?_) AllReadyH.nil
    go_simp
    ((with_reducible refine (H7.out _).mono ?_); rintro e w5 ⟨rfl, f5⟩)
    refine hK.out _ _ ?_ (fun hHeld => ?_)
    · ((try dsimp only) <;> (first | exact ⟨⟨r0, r2⟩, F.drew⟩ | exact hHeld | exact ⟨⟨keep_fr f5 hHeld.1.1, keep_fr f5 hHeld.1.2⟩, hHeld.2.trans' f5⟩))
    clear hK K
    try (simp only [Act.put, List.setIfInBounds_toArray]; dsimp only [List.set_cons_zero, List.set_cons_succ])
    refine wpAnyH_take (i := 9) (oi := ⟨_, _, _, _, _, _⟩) (v := ?_) rfl (by kernel_rfl) (by kernel_rfl) (by kernel_rfl) (fun _ _ _ h => h) (Or.inl ⟨by rfl, ?_⟩) (by assumption) ?_
    rotate_left
    · intro w hSw; (try dsimp only at hSw); go_simp; (try (with_reducible rfl)); done
    simp only [Act.put, List.setIfInBounds_toArray]; dsimp only [List.set_cons_zero, List.set_cons_succ]
    refine wpAnyH_take (i := 10) (oi := ⟨_, _, _, _, _, _⟩) (v := ?_) rfl (by kernel_rfl) (by kernel_rfl) (by kernel_rfl) (fun _ _ _ h => h) (Or.inl ⟨by rfl, ?_⟩) (by assumption) ?_
    rotate_left
    · intro w hSw; (try dsimp only at hSw); go_simp; (try (with_reducible rfl)); done
    simp only [Act.put, List.setIfInBounds_toArray]; dsimp only [List.set_cons_zero, List.set_cons_succ]
    refine wpAnyH_done (by kernel_rfl) ?_ _
    refine NoPanic.normal ?_
    all_goals
      go_wp2
      go_ret
      exact ⟨rfl, hHeld.2⟩
end Go.Proofs.Ytgdnmmobnfjegaa
