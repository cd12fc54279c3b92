/- Layer 6's law TargetScales, walked. -/
import Derived.Test.YtgdnmmobnfjegaaTk
namespace Go.Proofs.Ytgdnmmobnfjegaa
set_option linter.unusedVariables false
set_option linter.unusedSimpArgs false
open Go.RowKit

theorem scN_wide {t up by' most : Nat} (hm : most < W256) : scN t up by' most < W256 := by
  unfold scN
  split
  · exact hm
  · split
    · exact word_w (by omega)
    · omega

set_option maxRecDepth 100000 in
set_option maxHeartbeats 8000000 in
theorem targetScales_any (HD : DecC) (HW : WorkC) (HS : ScaleC) (t most up by' : Nat) (ht : t < W256) (hm : most < W256) (hup : up < 18446744073709551616) (hby : by' < 18446744073709551616) (w : World) :
    Calls Try.prog 6 #[.agg (rowN .u64 64 4 t), .agg (rowN .u64 64 4 most), .int .u64 (up : Int), .int .u64 (by' : Int)] w fun e w' => e = .returned (.bool true) ∧ Fr F0 w w' := by
  have HL := Lib.hid (lives06_any HD HW)
  have H1 := Lib.hid (HS t up by' most ht hup hby hm)
  have H2 := Lib.hid (r3Of_any t ht)
  have H3 := Lib.hid (r3Of_any most hm)
  have H4 : 0 < by' → Hid (∀ a c b d w, Ns w a c t → Ns w b d most → Calls Try.prog 24 #[.slice a (lg t) c, .int .u64 (up : Int), .int .u64 (by' : Int), .slice b (lg most) d] w fun e w' => NN (scN t up by' most) w e w') := fun hb => Lib.hid fun a c b d w h1 h2 => r6Scale_any t up by' most a c b d ht hm hup hby hb w h1 h2
  have H5 := Lib.hid (is06_yes (scN t up by' most) (scN_wide hm))
  have hcase : ((by' : Int) = 0 ∧ scV t up by' most = 0 ∧ scE by' most = 5) ∨ (¬ (by' : Int) = 0 ∧ most = 0 ∧ scV t up by' most = 0 ∧ scE by' most = 1) ∨ (¬ (by' : Int) = 0 ∧ 0 < by' ∧ rowEq 256 most 0 = false ∧ scV t up by' most = scN t up by' most ∧ scE by' most = 0) := by
    unfold scV scE
    by_cases h1 : by' = 0
    · exact .inl ⟨by omega, if_pos h1, if_pos h1⟩
    · right
      rw [if_neg h1, if_neg h1]
      by_cases h2 : most = 0
      · exact .inl ⟨by omega, h2, if_pos h2, if_pos h2⟩
      · exact .inr ⟨by omega, by omega, by rw [rowEq_of _ _ hm (word_w (by omega))]; exact decide_eq_false h2, if_neg h2, if_neg h2⟩
  clear ht hm hup hby HD HW HS
  generalize scV t up by' most = V at *
  generalize scE by' most = E at *
  generalize scN t up by' most = S at *
  have HC := Lib.hid hcase
  clear hcase
  go_enter Try.func6, Try.ntmps6
  go_wp2_with fail
  obtain ⟨W0, hW0⟩ : ∃ W, W = (w.alloc (.cells (rowN .u64 64 4 t) 24)).alloc (.cells (rowN .u64 64 4 most) 24) := ⟨_, rfl⟩
  refine Calls.of_world W0 hW0 ?_
  obtain ⟨r0, r1⟩ := heap2 w (.cells (rowN .u64 64 4 t) 24) (.cells (rowN .u64 64 4 most) 24)
  rw [← hW0] at r0 r1
  have F : Fr F0 w W0 := by rw [hW0]; exact ((Fr.refl F0 w).alloc _).alloc _
  clear hW0
  generalize hg1 : w.heap.size + 1 = g1 at *
  generalize hg0 : w.heap.size = g0 at *
  clear hg1 hg0
  (with_reducible refine (HL.out _).mono ?_); rintro e w1 ⟨rfl, f⟩
  replace F := F.trans' f
  replace r0 := keep_fr f r0
  replace r1 := keep_fr f r1
  clear f
  go_wp2_with fail
  (with_reducible refine (H1.out _).mono ?_); rintro e w2 ⟨rfl, f⟩
  replace F := F.trans' f
  replace r0 := keep_fr f r0
  replace r1 := keep_fr f r1
  clear f
  go_upto_region 4 with fail
  obtain ⟨W3, hW3⟩ : ∃ W, W = (w2.alloc (.cells (rowN .u64 64 4 0) 24)).setRow w2.heap.size (rowN .u64 64 4 V) := ⟨_, rfl⟩
  refine wp_of_world W3 hW3 ?_
  have N := put_new w2 (rowN .u64 64 4 0) (rowN .u64 64 4 V) 24
  rw [← hW3] at N
  have r3 := N.new
  replace F := F.trans' N.fr
  replace r0 := N.old r0
  replace r1 := N.old r1
  clear N hW3
  generalize w2.heap.size = g3 at *
  rcases HC.out with ⟨hz, rfl, rfl⟩ | ⟨hz, rfl, rfl, rfl⟩ | ⟨hz, hb, he, rfl, rfl⟩
  · generalize (by' : Int) = z at *
    subst hz
    go_wp2_with fail
    go_ret
    exact ⟨by simp, F⟩
  · go_wp2_with fail
    go_ret
    exact ⟨by simp, F⟩
  · have H4 := H4 hb
    clear hb
    go_wp2_with fail
    refine wp_region_noPanic ?_
    refine wp_region_held_drew (S := (fun w' => (w'.heap[g0]? = some (.cells (rowN .u64 64 4 t) 24 (0, 0)) ∧ w'.heap[g1]? = some (.cells (rowN .u64 64 4 most) 24 (0, 0)) ∧ w'.heap[g3]? = some (.cells (rowN .u64 64 4 V) 24 (0, 0))) ∧ Fr F0 w w')) (by kernel_rfl) ?_ (fun hHeld => ?_)
    · ((try dsimp only) <;> (first | exact ⟨⟨r0, r1, r3⟩, F.drew⟩ | exact ⟨⟨keep_fr f5 hHeld.1.1, keep_fr f5 hHeld.1.2.1, keep_fr f5 hHeld.1.2.2⟩, hHeld.2.trans' f5⟩))
    refine wpAnyH_take (i := 0) (oi := ⟨_, _, _, _, _, _⟩) (v := ?_) rfl (by kernel_rfl) (by kernel_rfl) (by kernel_rfl) (fun _ _ _ h => h) (Or.inl ⟨by rfl, ?_⟩) (by assumption) ?_
    rotate_left
    · intro w hSw; (try dsimp only at hSw); go_simp; (try (with_reducible rfl)); done
    simp only [Act.put, List.setIfInBounds_toArray]; dsimp only [List.set_cons_zero, List.set_cons_succ]
    refine wpAnyH_take (i := 1) (oi := ⟨_, _, _, _, _, _⟩) (v := ?_) rfl (by kernel_rfl) (by kernel_rfl) (by kernel_rfl) (fun _ _ _ h => h) (Or.inl ⟨by rfl, ?_⟩) (by assumption) ?_
    rotate_left
    · intro w hSw; (try dsimp only at hSw); go_simp; (try (with_reducible rfl)); done
    simp only [Act.put, List.setIfInBounds_toArray]; dsimp only [List.set_cons_zero, List.set_cons_succ]
    refine wpAnyH_take (i := 2) (oi := ⟨_, _, _, _, _, _⟩) (v := ?_) rfl (by kernel_rfl) (by kernel_rfl) (by kernel_rfl) (fun _ _ _ h => h) (Or.inl ⟨by rfl, ?_⟩) (by assumption) ?_
    rotate_left
    · intro w hSw; (try dsimp only at hSw); go_simp; (try (with_reducible rfl)); done
    simp only [Act.put, List.setIfInBounds_toArray]; dsimp only [List.set_cons_zero, List.set_cons_succ]
    refine wpAnyH_take (i := 3) (oi := ⟨_, _, _, _, _, _⟩) (v := ?_) rfl (by kernel_rfl) (by kernel_rfl) (by kernel_rfl) (fun _ _ _ h => h) (Or.inl ⟨by rfl, ?_⟩) (by assumption) ?_
    rotate_left
    · intro w hSw; (try dsimp only at hSw); go_simp; (try (with_reducible rfl)); done
    simp only [Act.put, List.setIfInBounds_toArray]; dsimp only [List.set_cons_zero, List.set_cons_succ]
    refine wpAnyH_take (i := 4) (oi := ⟨_, _, _, _, _, _⟩) (v := ?_) rfl (by kernel_rfl) (by kernel_rfl) (by kernel_rfl) (fun _ _ _ h => h) (Or.inl ⟨by rfl, ?_⟩) (by assumption) ?_
    rotate_left
    · intro w hSw; (try dsimp only at hSw); go_simp; (try (with_reducible rfl)); done
    simp only [Act.put, List.setIfInBounds_toArray]; dsimp only [List.set_cons_zero, List.set_cons_succ]
    refine wpAnyH_take (i := 6) (oi := ⟨_, _, _, _, _, _⟩) (v := ?_) rfl (by kernel_rfl) (by kernel_rfl) (by kernel_rfl) (fun _ _ _ h => h) (Or.inl ⟨by rfl, ?_⟩) (by assumption) ?_
    rotate_left
    · intro w hSw; (try dsimp only at hSw); go_simp; (try (with_reducible rfl)); done
    simp only [Act.put, List.setIfInBounds_toArray]; dsimp only [List.set_cons_zero, List.set_cons_succ]
    refine wpAnyH_take (i := 7) (oi := ⟨_, _, _, _, _, _⟩) (v := ?_) rfl (by kernel_rfl) (by kernel_rfl) (by kernel_rfl) (fun _ _ _ h => h) (Or.inl ⟨by rfl, ?_⟩) (by assumption) ?_
    rotate_left
    · intro w hSw; (try dsimp only at hSw); go_simp; (try (with_reducible rfl)); done
    simp only [Act.put, List.setIfInBounds_toArray]; dsimp only [List.set_cons_zero, List.set_cons_succ]
    refine wpAnyH_take (i := 8) (oi := ⟨_, _, _, _, _, _⟩) (v := ?_) rfl (by kernel_rfl) (by kernel_rfl) (by kernel_rfl) (fun _ _ _ h => h) (Or.inl ⟨by rfl, ?_⟩) (by assumption) ?_
    rotate_left
    · intro w hSw; (try dsimp only at hSw); go_simp; (try (with_reducible rfl)); done
    simp only [Act.put, List.setIfInBounds_toArray]; dsimp only [List.set_cons_zero, List.set_cons_succ]
    refine wpAnyH_ready (rs := [5]) (by kernel_rfl) (by simp) ?_
    refine AllReadyH.cons (o := ⟨_, _, _, _, _, _⟩) rfl (fun K hK => ?_) AllReadyH.nil
    go_simp
    ((with_reducible refine (H2.out _).mono ?_); rintro e w5 ⟨p5, k5, rfl, n5, f5⟩)
    refine hK.out _ _ ?_ (fun hHeld => ?_)
    · ((try dsimp only) <;> (first | exact ⟨⟨r0, r1, r3⟩, F.drew⟩ | exact ⟨⟨keep_fr f5 hHeld.1.1, keep_fr f5 hHeld.1.2.1, keep_fr f5 hHeld.1.2.2⟩, hHeld.2.trans' f5⟩))
    clear hK K
    try (simp only [Act.put, List.setIfInBounds_toArray]; dsimp only [List.set_cons_zero, List.set_cons_succ])
    refine wpAnyH_ready (rs := [9]) (by kernel_rfl) (by simp) ?_
    refine AllReadyH.cons (o := ⟨_, _, _, _, _, _⟩) rfl (fun K hK => ?_) AllReadyH.nil
    go_simp
    ((with_reducible refine (H3.out _).mono ?_); rintro e w6 ⟨p6, k6, rfl, n6, f5⟩; replace n5 := Us.fr n5 f5)
    refine hK.out _ _ ?_ (fun hHeld => ?_)
    · ((try dsimp only) <;> (first | exact ⟨⟨r0, r1, r3⟩, F.drew⟩ | exact ⟨⟨keep_fr f5 hHeld.1.1, keep_fr f5 hHeld.1.2.1, keep_fr f5 hHeld.1.2.2⟩, hHeld.2.trans' f5⟩))
    clear hK K
    try (simp only [Act.put, List.setIfInBounds_toArray]; dsimp only [List.set_cons_zero, List.set_cons_succ])
    refine wpAnyH_ready (rs := [10]) (by kernel_rfl) (by simp) ?_
    refine AllReadyH.cons (o := ⟨_, _, _, _, _, _⟩) rfl (fun K hK => ?_) AllReadyH.nil
    go_simp
    ((with_reducible refine (H4.out _ _ _ _ _ n5 n6).mono ?_); rintro e w7 ⟨p7, k7, rfl, n7, f5⟩)
    refine hK.out _ _ ?_ (fun hHeld => ?_)
    · ((try dsimp only) <;> (first | exact ⟨⟨r0, r1, r3⟩, F.drew⟩ | exact ⟨⟨keep_fr f5 hHeld.1.1, keep_fr f5 hHeld.1.2.1, keep_fr f5 hHeld.1.2.2⟩, hHeld.2.trans' f5⟩))
    clear hK K
    try (simp only [Act.put, List.setIfInBounds_toArray]; dsimp only [List.set_cons_zero, List.set_cons_succ])
    refine wpAnyH_ready (rs := [11]) (by kernel_rfl) (by simp) ?_
    refine AllReadyH.cons (o := ⟨_, _, _, _, _, _⟩) rfl (fun K hK => ?_) AllReadyH.nil
    go_simp
    ((with_reducible refine (H5.out _ _ _ n7).mono ?_); rintro e w8 ⟨rfl, f5⟩)
    refine hK.out _ _ ?_ (fun hHeld => ?_)
    · ((try dsimp only) <;> (first | exact ⟨⟨r0, r1, r3⟩, F.drew⟩ | exact ⟨⟨keep_fr f5 hHeld.1.1, keep_fr f5 hHeld.1.2.1, keep_fr f5 hHeld.1.2.2⟩, hHeld.2.trans' f5⟩))
    clear hK K
    try (simp only [Act.put, List.setIfInBounds_toArray]; dsimp only [List.set_cons_zero, List.set_cons_succ])
    refine wpAnyH_take (i := 12) (oi := ⟨_, _, _, _, _, _⟩) (v := ?_) rfl (by kernel_rfl) (by kernel_rfl) (by kernel_rfl) (fun _ _ _ h => h) (Or.inl ⟨by rfl, ?_⟩) (by assumption) ?_
    rotate_left
    · intro w hSw; (try dsimp only at hSw); go_simp; (try (with_reducible rfl)); done
    simp only [Act.put, List.setIfInBounds_toArray]; dsimp only [List.set_cons_zero, List.set_cons_succ]
    refine wpAnyH_take (i := 13) (oi := ⟨_, _, _, _, _, _⟩) (v := ?_) rfl (by kernel_rfl) (by kernel_rfl) (by kernel_rfl) (fun _ _ _ h => h) (Or.inl ⟨by rfl, ?_⟩) (by assumption) ?_
    rotate_left
    · intro w hSw; (try dsimp only at hSw); go_simp; (try (with_reducible rfl)); done
    simp only [Act.put, List.setIfInBounds_toArray]; dsimp only [List.set_cons_zero, List.set_cons_succ]
    refine wpAnyH_done (by kernel_rfl) ?_ _
    refine NoPanic.normal ?_
    all_goals
      go_wp2
      go_ret
      exact ⟨rfl, hHeld.2⟩
end Go.Proofs.Ytgdnmmobnfjegaa
