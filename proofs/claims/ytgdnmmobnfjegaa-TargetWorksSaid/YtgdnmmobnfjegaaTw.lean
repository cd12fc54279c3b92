/- Layer 6's law TargetWorks, walked. -/
import Derived.Test.YtgdnmmobnfjegaaTk
import Derived.Test.YtgdnmmobnfjegaaPiece
namespace Go.Proofs.Ytgdnmmobnfjegaa
set_option linter.unusedVariables false
set_option linter.unusedSimpArgs false
open Go.RowKit

theorem wkN_wide {t : Nat} : wkN t < W256 := by
  have h1 := word_w (x := 1) (by omega)
  unfold wkN
  split
  · omega
  · rename_i h
    rw [Nat.div_lt_iff_lt_mul (by omega)]
    have : W256 * 2 ≤ W256 * (t + 1) := Nat.mul_le_mul_left _ (by omega)
    omega
theorem wkN_le {t u : Nat} (h : t ≤ u) : wkN u ≤ wkN t := by
  by_cases h0 : t = 0
  · have := wkN_wide (t := u)
    rw [show wkN t = W256 - 1 from if_pos h0]
    omega
  · rw [show wkN t = W256 / (t + 1) from if_neg h0, show wkN u = W256 / (u + 1) from if_neg (by omega)]
    exact Nat.div_le_div_left (by omega) (by omega)
theorem byte_step (x j : Nat) : x / 2 ^ (8 * (j + 1)) * 256 + dgt 8 x j = x / 2 ^ (8 * j) := by
  unfold dgt
  rw [show 8 * (j + 1) = 8 * j + 8 by omega, Nat.pow_add, ← Nat.div_div_eq_div_mul]
  have := Nat.div_add_mod (x / 2 ^ (8 * j)) (2 ^ 8)
  omega

set_option maxRecDepth 100000 in
set_option maxHeartbeats 16000000 in
theorem tw3 {s0 s1 s2 s6 s7 s8 s9 s10 s11 s12 s13 s14 s15 s16 s17 s18 s19 s20 s21 s22 s23 s24 s25 s26 s27 s28 s29 s30 s31 s32 s33 s34 s35 s36 s37 s38 s39 s40 s41 s42 s43 s44 s45 s46 s47 s48 s49 s50 s51 s52 s53 s54 s55 s56 s57 s58 : Value} {K : Act → World → Prop} {Q : Exit → Act → World → Prop} (w w6 : World) (t u h q r g0 g1 g2 : Nat) (H1 : RowKit.Hid (∀ w : World, Calls Try.prog 18 #[.agg (rowN .u64 64 4 t)] w fun e w' => e = .returned (.agg (rowN .u64 64 4 q)) ∧ Fr F0 w w')) (H2 : RowKit.Hid (∀ w : World, Calls Try.prog 18 #[.agg (rowN .u64 64 4 u)] w fun e w' => e = .returned (.agg (rowN .u64 64 4 r)) ∧ Fr F0 w w')) (r0 : w6.heap[g0]? = some (.cells (rowN .u64 64 4 t) 24 (0, 0))) (r1 : w6.heap[g1]? = some (.cells (rowN .u64 64 4 u) 24 (0, 0))) (r2 : w6.heap[g2]? = some (.cells (rowN .u8 8 32 h) 26 (0, 0))) (F : Fr F0 w w6)
    (hK : RowKit.Hid (∀ {u7 u8 u13 u14 u15 u16 : Value} {w' : World}, ((∃ p1 p2 : Nat, u7 = .pointer (some ⟨p1, 0, none⟩) ∧ u8 = .pointer (some ⟨p2, 0, none⟩) ∧ w'.heap[p1]? = some (.cells (rowN .u64 64 4 q) 24 (0, 0)) ∧ w'.heap[p2]? = some (.cells (rowN .u64 64 4 r) 24 (0, 0))) ∧ (w'.heap[g0]? = some (.cells (rowN .u64 64 4 t) 24 (0, 0)) ∧ w'.heap[g1]? = some (.cells (rowN .u64 64 4 u) 24 (0, 0)) ∧ w'.heap[g2]? = some (.cells (rowN .u8 8 32 h) 26 (0, 0))) ∧ Fr F0 w w') → K ⟨#[s0, s1, s2, .pointer (some ⟨g0, 0, none⟩), .pointer (some ⟨g1, 0, none⟩), .pointer (some ⟨g2, 0, none⟩), s6, u7, u8, s9, s10, s11, s12, u13, u14, u15, u16, s17, s18, s19, s20, s21, s22, s23, s24, s25, s26, s27, s28, s29, s30, s31, s32, s33, s34, s35, s36, s37, s38, s39, s40, s41, s42, s43, s44, s45, s46, s47, s48, s49, s50, s51, s52, s53, s54, s55, s56, s57, s58], []⟩ w')) :
    Code.wp Try.prog ((Try.f5.body.bind (findRegion 3)).getD .skip) (Exit.then K Q) ⟨#[s0, s1, s2, .pointer (some ⟨g0, 0, none⟩), .pointer (some ⟨g1, 0, none⟩), .pointer (some ⟨g2, 0, none⟩), s6, s7, s8, s9, s10, s11, s12, s13, s14, s15, s16, s17, s18, s19, s20, s21, s22, s23, s24, s25, s26, s27, s28, s29, s30, s31, s32, s33, s34, s35, s36, s37, s38, s39, s40, s41, s42, s43, s44, s45, s46, s47, s48, s49, s50, s51, s52, s53, s54, s55, s56, s57, s58], []⟩ w6 := by
  conv => arg 2; whnf
  have HG0 := Lib.hid (And.intro (Array.getElem?_eq_some_iff.1 r0).1 (And.intro (Array.getElem?_eq_some_iff.1 r1).1 (And.intro (Array.getElem?_eq_some_iff.1 r2).1 F.size)))
  refine wp_region_noPanic ?_
  refine wp_region_held_drew (S := (fun w' => (w'.heap[g0]? = some (.cells (rowN .u64 64 4 t) 24 (0, 0)) ∧ w'.heap[g1]? = some (.cells (rowN .u64 64 4 u) 24 (0, 0)) ∧ w'.heap[g2]? = some (.cells (rowN .u8 8 32 h) 26 (0, 0))) ∧ Fr F0 w w')) (by kernel_rfl) ?_ (fun hHeld => ?_)
  · ((try dsimp only) <;> (first | exact ⟨⟨r0, r1, r2⟩, F.drew⟩ | exact ⟨⟨keep_fr f5 hHeld.1.1, keep_fr f5 hHeld.1.2.1, keep_fr f5 hHeld.1.2.2⟩, hHeld.2.trans' f5⟩ | exact ⟨⟨keep_alloc hHeld.1.1, keep_alloc hHeld.1.2.1, keep_alloc hHeld.1.2.2⟩, hHeld.2.alloc _⟩ | exact ⟨⟨keep_row (by have := HG0.out; omega) hHeld.1.1, keep_row (by have := HG0.out; omega) hHeld.1.2.1, keep_row (by have := HG0.out; omega) hHeld.1.2.2⟩, hHeld.2.setRow (fun h => by have := HG0.out; omega) _⟩))
  refine wpAnyH_take (i := 0) (oi := ⟨_, _, _, _, _, _⟩) (v := ?_) rfl (by kernel_rfl) (by kernel_rfl) (by kernel_rfl) (fun _ _ _ h => h) (Or.inl ⟨by rfl, ?_⟩) (by assumption) ?_
  rotate_left
  · intro w hSw; (try dsimp only at hSw); go_simp; (try (with_reducible rfl)); done
  simp only [Act.put, List.setIfInBounds_toArray]; dsimp only [List.set_cons_zero, List.set_cons_succ]
  refine wpAnyH_take (i := 2) (oi := ⟨_, _, _, _, _, _⟩) (v := ?_) rfl (by kernel_rfl) (by kernel_rfl) (by kernel_rfl) (fun _ _ _ h => h) (Or.inl ⟨by rfl, ?_⟩) (by assumption) ?_
  rotate_left
  · intro w hSw; (try dsimp only at hSw); go_simp; (try (with_reducible rfl)); done
  simp only [Act.put, List.setIfInBounds_toArray]; dsimp only [List.set_cons_zero, List.set_cons_succ]
  refine wpAnyH_ready (rs := [1, 4, 5]) (by kernel_rfl) (by simp) ?_
  refine AllReadyH.cons (o := ⟨_, _, _, _, _, _⟩) rfl (fun K hK => ?_) (AllReadyH.cons (o := ⟨_, _, _, _, _, _⟩) rfl (fun K hK => ?_) (AllReadyH.cons (o := ⟨_, _, _, _, _, _⟩) rfl (fun K hK => ?_) AllReadyH.nil))
  go_simp
  (refine (H1.out _).mono ?_; rintro e w5 ⟨rfl, f5⟩; have z5 := f5.size; (try simp only [World.size_alloc, heap_drew'] at z5))
  refine hK.out _ _ ?_ (fun hHeld => ?_)
  · ((try dsimp only) <;> (first | exact ⟨⟨r0, r1, r2⟩, F.drew⟩ | exact ⟨⟨keep_fr f5 hHeld.1.1, keep_fr f5 hHeld.1.2.1, keep_fr f5 hHeld.1.2.2⟩, hHeld.2.trans' f5⟩ | exact ⟨⟨keep_alloc hHeld.1.1, keep_alloc hHeld.1.2.1, keep_alloc hHeld.1.2.2⟩, hHeld.2.alloc _⟩ | exact ⟨⟨keep_row (by have := HG0.out; omega) hHeld.1.1, keep_row (by have := HG0.out; omega) hHeld.1.2.1, keep_row (by have := HG0.out; omega) hHeld.1.2.2⟩, hHeld.2.setRow (fun h => by have := HG0.out; omega) _⟩))
  clear hK K
  try (simp only [Act.put, List.setIfInBounds_toArray]; dsimp only [List.set_cons_zero, List.set_cons_succ])
  refine wpAnyH_ready (rs := [3, 4, 5]) (by kernel_rfl) (by simp) ?_
  refine AllReadyH.cons (o := ⟨_, _, _, _, _, _⟩) rfl (fun K hK => ?_) (AllReadyH.cons (o := ⟨_, _, _, _, _, _⟩) rfl (fun K hK => ?_) (AllReadyH.cons (o := ⟨_, _, _, _, _, _⟩) rfl (fun K hK => ?_) AllReadyH.nil))
  go_simp
  (refine (H2.out _).mono ?_; rintro e w5 ⟨rfl, f5⟩; have z5 := f5.size; (try simp only [World.size_alloc, heap_drew'] at z5))
  refine hK.out _ _ ?_ (fun hHeld => ?_)
  · ((try dsimp only) <;> (first | exact ⟨⟨r0, r1, r2⟩, F.drew⟩ | exact ⟨⟨keep_fr f5 hHeld.1.1, keep_fr f5 hHeld.1.2.1, keep_fr f5 hHeld.1.2.2⟩, hHeld.2.trans' f5⟩ | exact ⟨⟨keep_alloc hHeld.1.1, keep_alloc hHeld.1.2.1, keep_alloc hHeld.1.2.2⟩, hHeld.2.alloc _⟩ | exact ⟨⟨keep_row (by have := HG0.out; omega) hHeld.1.1, keep_row (by have := HG0.out; omega) hHeld.1.2.1, keep_row (by have := HG0.out; omega) hHeld.1.2.2⟩, hHeld.2.setRow (fun h => by have := HG0.out; omega) _⟩))
  clear hK K
  try (simp only [Act.put, List.setIfInBounds_toArray]; dsimp only [List.set_cons_zero, List.set_cons_succ])
  refine wpAnyH_ready (rs := [4, 5]) (by kernel_rfl) (by simp) ?_
  refine AllReadyH.cons (o := ⟨_, _, _, _, _, _⟩) rfl (fun K hK => ?_) (AllReadyH.cons (o := ⟨_, _, _, _, _, _⟩) rfl (fun K hK => ?_) AllReadyH.nil)
  go_simp
  refine hK.out _ _ ?_ (fun hHeld => ?_)
  · ((try dsimp only) <;> (first | exact ⟨⟨r0, r1, r2⟩, F.drew⟩ | exact ⟨⟨keep_fr f5 hHeld.1.1, keep_fr f5 hHeld.1.2.1, keep_fr f5 hHeld.1.2.2⟩, hHeld.2.trans' f5⟩ | exact ⟨⟨keep_alloc hHeld.1.1, keep_alloc hHeld.1.2.1, keep_alloc hHeld.1.2.2⟩, hHeld.2.alloc _⟩ | exact ⟨⟨keep_row (by have := HG0.out; omega) hHeld.1.1, keep_row (by have := HG0.out; omega) hHeld.1.2.1, keep_row (by have := HG0.out; omega) hHeld.1.2.2⟩, hHeld.2.setRow (fun h => by have := HG0.out; omega) _⟩))
  clear hK K
  try (simp only [Act.put, List.setIfInBounds_toArray]; dsimp only [List.set_cons_zero, List.set_cons_succ])
  refine wpAnyH_ready (rs := [5]) (by kernel_rfl) (by simp) ?_
  refine AllReadyH.cons (o := ⟨_, _, _, _, _, _⟩) rfl (fun K hK => ?_) AllReadyH.nil
  go_simp
  refine hK.out _ _ ?_ (fun hHeld => ?_)
  · ((try dsimp only) <;> (first | exact ⟨⟨r0, r1, r2⟩, F.drew⟩ | exact ⟨⟨keep_fr f5 hHeld.1.1, keep_fr f5 hHeld.1.2.1, keep_fr f5 hHeld.1.2.2⟩, hHeld.2.trans' f5⟩ | exact ⟨⟨keep_alloc hHeld.1.1, keep_alloc hHeld.1.2.1, keep_alloc hHeld.1.2.2⟩, hHeld.2.alloc _⟩ | exact ⟨⟨keep_row (by have := HG0.out; omega) hHeld.1.1, keep_row (by have := HG0.out; omega) hHeld.1.2.1, keep_row (by have := HG0.out; omega) hHeld.1.2.2⟩, hHeld.2.setRow (fun h => by have := HG0.out; omega) _⟩))
  clear hK K
  try (simp only [Act.put, List.setIfInBounds_toArray]; dsimp only [List.set_cons_zero, List.set_cons_succ])
  refine wpAnyH_ready (rs := [6]) (by kernel_rfl) (by simp) ?_
  refine AllReadyH.cons (o := ⟨_, _, _, _, _, _⟩) rfl (fun K hK => ?_) AllReadyH.nil
  go_simp
  (try (rw [rowIn_of (old := rowN .u64 64 4 0) (t' := 24) (by ((try rw [← Array.getElem?_eq_getElem]); repeat (first | exact heap_alloc_new _ _ | exact heap_alloc2_new _ _ _ | refine keep_alloc ?_ | refine keep_fr (by assumption) ?_))) (rowN_size _ _ _ _) (rowN_size _ _ _ _) (rowN_rowOne _ _ _ _)]; go_simp))
  refine hK.out _ _ ?_ (fun hHeld => ?_)
  · ((try dsimp only) <;> (first | exact ⟨⟨r0, r1, r2⟩, F.drew⟩ | exact ⟨⟨keep_fr f5 hHeld.1.1, keep_fr f5 hHeld.1.2.1, keep_fr f5 hHeld.1.2.2⟩, hHeld.2.trans' f5⟩ | exact ⟨⟨keep_alloc hHeld.1.1, keep_alloc hHeld.1.2.1, keep_alloc hHeld.1.2.2⟩, hHeld.2.alloc _⟩ | exact ⟨⟨keep_row (by have := HG0.out; omega) hHeld.1.1, keep_row (by have := HG0.out; omega) hHeld.1.2.1, keep_row (by have := HG0.out; omega) hHeld.1.2.2⟩, hHeld.2.setRow (fun h => by have := HG0.out; omega) _⟩))
  clear hK K
  try (simp only [Act.put, List.setIfInBounds_toArray]; dsimp only [List.set_cons_zero, List.set_cons_succ])
  refine wpAnyH_ready (rs := [7]) (by kernel_rfl) (by simp) ?_
  refine AllReadyH.cons (o := ⟨_, _, _, _, _, _⟩) rfl (fun K hK => ?_) AllReadyH.nil
  go_simp
  (try (rw [rowIn_of (old := rowN .u64 64 4 0) (t' := 24) (by ((try rw [← Array.getElem?_eq_getElem]); repeat (first | exact heap_alloc_new _ _ | exact heap_alloc2_new _ _ _ | refine keep_row (by (try simp only [World.size_alloc]); omega) ?_ | refine keep_alloc ?_ | refine keep_fr (by assumption) ?_))) (rowN_size _ _ _ _) (rowN_size _ _ _ _) (rowN_rowOne _ _ _ _)]; go_simp))
  refine hK.out _ _ ?_ (fun hHeld => ?_)
  · ((try dsimp only) <;> (first | exact ⟨⟨r0, r1, r2⟩, F.drew⟩ | exact ⟨⟨keep_fr f5 hHeld.1.1, keep_fr f5 hHeld.1.2.1, keep_fr f5 hHeld.1.2.2⟩, hHeld.2.trans' f5⟩ | exact ⟨⟨keep_alloc hHeld.1.1, keep_alloc hHeld.1.2.1, keep_alloc hHeld.1.2.2⟩, hHeld.2.alloc _⟩ | exact ⟨⟨keep_row (by have := HG0.out; omega) hHeld.1.1, keep_row (by have := HG0.out; omega) hHeld.1.2.1, keep_row (by have := HG0.out; omega) hHeld.1.2.2⟩, hHeld.2.setRow (fun h => by have := HG0.out; omega) _⟩))
  clear hK K
  try (simp only [Act.put, List.setIfInBounds_toArray]; dsimp only [List.set_cons_zero, List.set_cons_succ])
  refine wpAnyH_done (by kernel_rfl) ?_ _
  refine NoPanic.normal ?_
  rotate_left
  go_simp
  refine hK.out _ _ ?_ (fun hHeld => ?_)
  · ((try dsimp only) <;> (first | exact ⟨⟨r0, r1, r2⟩, F.drew⟩ | exact ⟨⟨keep_fr f5 hHeld.1.1, keep_fr f5 hHeld.1.2.1, keep_fr f5 hHeld.1.2.2⟩, hHeld.2.trans' f5⟩ | exact ⟨⟨keep_alloc hHeld.1.1, keep_alloc hHeld.1.2.1, keep_alloc hHeld.1.2.2⟩, hHeld.2.alloc _⟩ | exact ⟨⟨keep_row (by have := HG0.out; omega) hHeld.1.1, keep_row (by have := HG0.out; omega) hHeld.1.2.1, keep_row (by have := HG0.out; omega) hHeld.1.2.2⟩, hHeld.2.setRow (fun h => by have := HG0.out; omega) _⟩))
  clear hK K
  try (simp only [Act.put, List.setIfInBounds_toArray]; dsimp only [List.set_cons_zero, List.set_cons_succ])
  refine wpAnyH_ready (rs := [4]) (by kernel_rfl) (by simp) ?_
  refine AllReadyH.cons (o := ⟨_, _, _, _, _, _⟩) rfl (fun K hK => ?_) AllReadyH.nil
  go_simp
  refine hK.out _ _ ?_ (fun hHeld => ?_)
  · ((try dsimp only) <;> (first | exact ⟨⟨r0, r1, r2⟩, F.drew⟩ | exact ⟨⟨keep_fr f5 hHeld.1.1, keep_fr f5 hHeld.1.2.1, keep_fr f5 hHeld.1.2.2⟩, hHeld.2.trans' f5⟩ | exact ⟨⟨keep_alloc hHeld.1.1, keep_alloc hHeld.1.2.1, keep_alloc hHeld.1.2.2⟩, hHeld.2.alloc _⟩ | exact ⟨⟨keep_row (by have := HG0.out; omega) hHeld.1.1, keep_row (by have := HG0.out; omega) hHeld.1.2.1, keep_row (by have := HG0.out; omega) hHeld.1.2.2⟩, hHeld.2.setRow (fun h => by have := HG0.out; omega) _⟩))
  clear hK K
  try (simp only [Act.put, List.setIfInBounds_toArray]; dsimp only [List.set_cons_zero, List.set_cons_succ])
  refine wpAnyH_ready (rs := [6]) (by kernel_rfl) (by simp) ?_
  refine AllReadyH.cons (o := ⟨_, _, _, _, _, _⟩) rfl (fun K hK => ?_) AllReadyH.nil
  go_simp
  (try (rw [rowIn_of (old := rowN .u64 64 4 0) (t' := 24) (by ((try rw [← Array.getElem?_eq_getElem]); repeat (first | exact heap_alloc_new _ _ | exact heap_alloc2_new _ _ _ | refine keep_alloc ?_ | refine keep_fr (by assumption) ?_))) (rowN_size _ _ _ _) (rowN_size _ _ _ _) (rowN_rowOne _ _ _ _)]; go_simp))
  refine hK.out _ _ ?_ (fun hHeld => ?_)
  · ((try dsimp only) <;> (first | exact ⟨⟨r0, r1, r2⟩, F.drew⟩ | exact ⟨⟨keep_fr f5 hHeld.1.1, keep_fr f5 hHeld.1.2.1, keep_fr f5 hHeld.1.2.2⟩, hHeld.2.trans' f5⟩ | exact ⟨⟨keep_alloc hHeld.1.1, keep_alloc hHeld.1.2.1, keep_alloc hHeld.1.2.2⟩, hHeld.2.alloc _⟩ | exact ⟨⟨keep_row (by have := HG0.out; omega) hHeld.1.1, keep_row (by have := HG0.out; omega) hHeld.1.2.1, keep_row (by have := HG0.out; omega) hHeld.1.2.2⟩, hHeld.2.setRow (fun h => by have := HG0.out; omega) _⟩))
  clear hK K
  try (simp only [Act.put, List.setIfInBounds_toArray]; dsimp only [List.set_cons_zero, List.set_cons_succ])
  refine wpAnyH_ready (rs := [7]) (by kernel_rfl) (by simp) ?_
  refine AllReadyH.cons (o := ⟨_, _, _, _, _, _⟩) rfl (fun K hK => ?_) AllReadyH.nil
  go_simp
  (try (rw [rowIn_of (old := rowN .u64 64 4 0) (t' := 24) (by ((try rw [← Array.getElem?_eq_getElem]); repeat (first | exact heap_alloc_new _ _ | exact heap_alloc2_new _ _ _ | refine keep_row (by (try simp only [World.size_alloc]); omega) ?_ | refine keep_alloc ?_ | refine keep_fr (by assumption) ?_))) (rowN_size _ _ _ _) (rowN_size _ _ _ _) (rowN_rowOne _ _ _ _)]; go_simp))
  refine hK.out _ _ ?_ (fun hHeld => ?_)
  · ((try dsimp only) <;> (first | exact ⟨⟨r0, r1, r2⟩, F.drew⟩ | exact ⟨⟨keep_fr f5 hHeld.1.1, keep_fr f5 hHeld.1.2.1, keep_fr f5 hHeld.1.2.2⟩, hHeld.2.trans' f5⟩ | exact ⟨⟨keep_alloc hHeld.1.1, keep_alloc hHeld.1.2.1, keep_alloc hHeld.1.2.2⟩, hHeld.2.alloc _⟩ | exact ⟨⟨keep_row (by have := HG0.out; omega) hHeld.1.1, keep_row (by have := HG0.out; omega) hHeld.1.2.1, keep_row (by have := HG0.out; omega) hHeld.1.2.2⟩, hHeld.2.setRow (fun h => by have := HG0.out; omega) _⟩))
  clear hK K
  try (simp only [Act.put, List.setIfInBounds_toArray]; dsimp only [List.set_cons_zero, List.set_cons_succ])
  refine wpAnyH_done (by kernel_rfl) ?_ _
  refine NoPanic.normal ?_
  rotate_left
  go_simp
  refine hK.out _ _ ?_ (fun hHeld => ?_)
  · ((try dsimp only) <;> (first | exact ⟨⟨r0, r1, r2⟩, F.drew⟩ | exact ⟨⟨keep_fr f5 hHeld.1.1, keep_fr f5 hHeld.1.2.1, keep_fr f5 hHeld.1.2.2⟩, hHeld.2.trans' f5⟩ | exact ⟨⟨keep_alloc hHeld.1.1, keep_alloc hHeld.1.2.1, keep_alloc hHeld.1.2.2⟩, hHeld.2.alloc _⟩ | exact ⟨⟨keep_row (by have := HG0.out; omega) hHeld.1.1, keep_row (by have := HG0.out; omega) hHeld.1.2.1, keep_row (by have := HG0.out; omega) hHeld.1.2.2⟩, hHeld.2.setRow (fun h => by have := HG0.out; omega) _⟩))
  clear hK K
  try (simp only [Act.put, List.setIfInBounds_toArray]; dsimp only [List.set_cons_zero, List.set_cons_succ])
  refine wpAnyH_ready (rs := [3, 5]) (by kernel_rfl) (by simp) ?_
  refine AllReadyH.cons (o := ⟨_, _, _, _, _, _⟩) rfl (fun K hK => ?_) (AllReadyH.cons (o := ⟨_, _, _, _, _, _⟩) rfl (fun K hK => ?_) AllReadyH.nil)
  go_simp
  (refine (H2.out _).mono ?_; rintro e w5 ⟨rfl, f5⟩; have z5 := f5.size; (try simp only [World.size_alloc, heap_drew'] at z5))
  refine hK.out _ _ ?_ (fun hHeld => ?_)
  · ((try dsimp only) <;> (first | exact ⟨⟨r0, r1, r2⟩, F.drew⟩ | exact ⟨⟨keep_fr f5 hHeld.1.1, keep_fr f5 hHeld.1.2.1, keep_fr f5 hHeld.1.2.2⟩, hHeld.2.trans' f5⟩ | exact ⟨⟨keep_alloc hHeld.1.1, keep_alloc hHeld.1.2.1, keep_alloc hHeld.1.2.2⟩, hHeld.2.alloc _⟩ | exact ⟨⟨keep_row (by have := HG0.out; omega) hHeld.1.1, keep_row (by have := HG0.out; omega) hHeld.1.2.1, keep_row (by have := HG0.out; omega) hHeld.1.2.2⟩, hHeld.2.setRow (fun h => by have := HG0.out; omega) _⟩))
  clear hK K
  try (simp only [Act.put, List.setIfInBounds_toArray]; dsimp only [List.set_cons_zero, List.set_cons_succ])
  refine wpAnyH_ready (rs := [5]) (by kernel_rfl) (by simp) ?_
  refine AllReadyH.cons (o := ⟨_, _, _, _, _, _⟩) rfl (fun K hK => ?_) AllReadyH.nil
  go_simp
  refine hK.out _ _ ?_ (fun hHeld => ?_)
  · ((try dsimp only) <;> (first | exact ⟨⟨r0, r1, r2⟩, F.drew⟩ | exact ⟨⟨keep_fr f5 hHeld.1.1, keep_fr f5 hHeld.1.2.1, keep_fr f5 hHeld.1.2.2⟩, hHeld.2.trans' f5⟩ | exact ⟨⟨keep_alloc hHeld.1.1, keep_alloc hHeld.1.2.1, keep_alloc hHeld.1.2.2⟩, hHeld.2.alloc _⟩ | exact ⟨⟨keep_row (by have := HG0.out; omega) hHeld.1.1, keep_row (by have := HG0.out; omega) hHeld.1.2.1, keep_row (by have := HG0.out; omega) hHeld.1.2.2⟩, hHeld.2.setRow (fun h => by have := HG0.out; omega) _⟩))
  clear hK K
  try (simp only [Act.put, List.setIfInBounds_toArray]; dsimp only [List.set_cons_zero, List.set_cons_succ])
  refine wpAnyH_ready (rs := [6]) (by kernel_rfl) (by simp) ?_
  refine AllReadyH.cons (o := ⟨_, _, _, _, _, _⟩) rfl (fun K hK => ?_) AllReadyH.nil
  go_simp
  (try (rw [rowIn_of (old := rowN .u64 64 4 0) (t' := 24) (by ((try rw [← Array.getElem?_eq_getElem]); repeat (first | exact heap_alloc_new _ _ | exact heap_alloc2_new _ _ _ | refine keep_alloc ?_ | refine keep_fr (by assumption) ?_))) (rowN_size _ _ _ _) (rowN_size _ _ _ _) (rowN_rowOne _ _ _ _)]; go_simp))
  refine hK.out _ _ ?_ (fun hHeld => ?_)
  · ((try dsimp only) <;> (first | exact ⟨⟨r0, r1, r2⟩, F.drew⟩ | exact ⟨⟨keep_fr f5 hHeld.1.1, keep_fr f5 hHeld.1.2.1, keep_fr f5 hHeld.1.2.2⟩, hHeld.2.trans' f5⟩ | exact ⟨⟨keep_alloc hHeld.1.1, keep_alloc hHeld.1.2.1, keep_alloc hHeld.1.2.2⟩, hHeld.2.alloc _⟩ | exact ⟨⟨keep_row (by have := HG0.out; omega) hHeld.1.1, keep_row (by have := HG0.out; omega) hHeld.1.2.1, keep_row (by have := HG0.out; omega) hHeld.1.2.2⟩, hHeld.2.setRow (fun h => by have := HG0.out; omega) _⟩))
  clear hK K
  try (simp only [Act.put, List.setIfInBounds_toArray]; dsimp only [List.set_cons_zero, List.set_cons_succ])
  refine wpAnyH_ready (rs := [7]) (by kernel_rfl) (by simp) ?_
  refine AllReadyH.cons (o := ⟨_, _, _, _, _, _⟩) rfl (fun K hK => ?_) AllReadyH.nil
  go_simp
  (try (rw [rowIn_of (old := rowN .u64 64 4 0) (t' := 24) (by ((try rw [← Array.getElem?_eq_getElem]); repeat (first | exact heap_alloc_new _ _ | exact heap_alloc2_new _ _ _ | refine keep_row (by (try simp only [World.size_alloc]); omega) ?_ | refine keep_alloc ?_ | refine keep_fr (by assumption) ?_))) (rowN_size _ _ _ _) (rowN_size _ _ _ _) (rowN_rowOne _ _ _ _)]; go_simp))
  refine hK.out _ _ ?_ (fun hHeld => ?_)
  · ((try dsimp only) <;> (first | exact ⟨⟨r0, r1, r2⟩, F.drew⟩ | exact ⟨⟨keep_fr f5 hHeld.1.1, keep_fr f5 hHeld.1.2.1, keep_fr f5 hHeld.1.2.2⟩, hHeld.2.trans' f5⟩ | exact ⟨⟨keep_alloc hHeld.1.1, keep_alloc hHeld.1.2.1, keep_alloc hHeld.1.2.2⟩, hHeld.2.alloc _⟩ | exact ⟨⟨keep_row (by have := HG0.out; omega) hHeld.1.1, keep_row (by have := HG0.out; omega) hHeld.1.2.1, keep_row (by have := HG0.out; omega) hHeld.1.2.2⟩, hHeld.2.setRow (fun h => by have := HG0.out; omega) _⟩))
  clear hK K
  try (simp only [Act.put, List.setIfInBounds_toArray]; dsimp only [List.set_cons_zero, List.set_cons_succ])
  refine wpAnyH_done (by kernel_rfl) ?_ _
  refine NoPanic.normal ?_
  rotate_left
  go_simp
  refine hK.out _ _ ?_ (fun hHeld => ?_)
  · ((try dsimp only) <;> (first | exact ⟨⟨r0, r1, r2⟩, F.drew⟩ | exact ⟨⟨keep_fr f5 hHeld.1.1, keep_fr f5 hHeld.1.2.1, keep_fr f5 hHeld.1.2.2⟩, hHeld.2.trans' f5⟩ | exact ⟨⟨keep_alloc hHeld.1.1, keep_alloc hHeld.1.2.1, keep_alloc hHeld.1.2.2⟩, hHeld.2.alloc _⟩ | exact ⟨⟨keep_row (by have := HG0.out; omega) hHeld.1.1, keep_row (by have := HG0.out; omega) hHeld.1.2.1, keep_row (by have := HG0.out; omega) hHeld.1.2.2⟩, hHeld.2.setRow (fun h => by have := HG0.out; omega) _⟩))
  clear hK K
  try (simp only [Act.put, List.setIfInBounds_toArray]; dsimp only [List.set_cons_zero, List.set_cons_succ])
  refine wpAnyH_ready (rs := [3]) (by kernel_rfl) (by simp) ?_
  refine AllReadyH.cons (o := ⟨_, _, _, _, _, _⟩) rfl (fun K hK => ?_) AllReadyH.nil
  go_simp
  (refine (H2.out _).mono ?_; rintro e w5 ⟨rfl, f5⟩; have z5 := f5.size; (try simp only [World.size_alloc, heap_drew'] at z5))
  refine hK.out _ _ ?_ (fun hHeld => ?_)
  · ((try dsimp only) <;> (first | exact ⟨⟨r0, r1, r2⟩, F.drew⟩ | exact ⟨⟨keep_fr f5 hHeld.1.1, keep_fr f5 hHeld.1.2.1, keep_fr f5 hHeld.1.2.2⟩, hHeld.2.trans' f5⟩ | exact ⟨⟨keep_alloc hHeld.1.1, keep_alloc hHeld.1.2.1, keep_alloc hHeld.1.2.2⟩, hHeld.2.alloc _⟩ | exact ⟨⟨keep_row (by have := HG0.out; omega) hHeld.1.1, keep_row (by have := HG0.out; omega) hHeld.1.2.1, keep_row (by have := HG0.out; omega) hHeld.1.2.2⟩, hHeld.2.setRow (fun h => by have := HG0.out; omega) _⟩))
  clear hK K
  try (simp only [Act.put, List.setIfInBounds_toArray]; dsimp only [List.set_cons_zero, List.set_cons_succ])
  refine wpAnyH_ready (rs := [6]) (by kernel_rfl) (by simp) ?_
  refine AllReadyH.cons (o := ⟨_, _, _, _, _, _⟩) rfl (fun K hK => ?_) AllReadyH.nil
  go_simp
  (try (rw [rowIn_of (old := rowN .u64 64 4 0) (t' := 24) (by ((try rw [← Array.getElem?_eq_getElem]); repeat (first | exact heap_alloc_new _ _ | exact heap_alloc2_new _ _ _ | refine keep_alloc ?_ | refine keep_fr (by assumption) ?_))) (rowN_size _ _ _ _) (rowN_size _ _ _ _) (rowN_rowOne _ _ _ _)]; go_simp))
  refine hK.out _ _ ?_ (fun hHeld => ?_)
  · ((try dsimp only) <;> (first | exact ⟨⟨r0, r1, r2⟩, F.drew⟩ | exact ⟨⟨keep_fr f5 hHeld.1.1, keep_fr f5 hHeld.1.2.1, keep_fr f5 hHeld.1.2.2⟩, hHeld.2.trans' f5⟩ | exact ⟨⟨keep_alloc hHeld.1.1, keep_alloc hHeld.1.2.1, keep_alloc hHeld.1.2.2⟩, hHeld.2.alloc _⟩ | exact ⟨⟨keep_row (by have := HG0.out; omega) hHeld.1.1, keep_row (by have := HG0.out; omega) hHeld.1.2.1, keep_row (by have := HG0.out; omega) hHeld.1.2.2⟩, hHeld.2.setRow (fun h => by have := HG0.out; omega) _⟩))
  clear hK K
  try (simp only [Act.put, List.setIfInBounds_toArray]; dsimp only [List.set_cons_zero, List.set_cons_succ])
  refine wpAnyH_ready (rs := [7]) (by kernel_rfl) (by simp) ?_
  refine AllReadyH.cons (o := ⟨_, _, _, _, _, _⟩) rfl (fun K hK => ?_) AllReadyH.nil
  go_simp
  (try (rw [rowIn_of (old := rowN .u64 64 4 0) (t' := 24) (by ((try rw [← Array.getElem?_eq_getElem]); repeat (first | exact heap_alloc_new _ _ | exact heap_alloc2_new _ _ _ | refine keep_row (by (try simp only [World.size_alloc]); omega) ?_ | refine keep_alloc ?_ | refine keep_fr (by assumption) ?_))) (rowN_size _ _ _ _) (rowN_size _ _ _ _) (rowN_rowOne _ _ _ _)]; go_simp))
  refine hK.out _ _ ?_ (fun hHeld => ?_)
  · ((try dsimp only) <;> (first | exact ⟨⟨r0, r1, r2⟩, F.drew⟩ | exact ⟨⟨keep_fr f5 hHeld.1.1, keep_fr f5 hHeld.1.2.1, keep_fr f5 hHeld.1.2.2⟩, hHeld.2.trans' f5⟩ | exact ⟨⟨keep_alloc hHeld.1.1, keep_alloc hHeld.1.2.1, keep_alloc hHeld.1.2.2⟩, hHeld.2.alloc _⟩ | exact ⟨⟨keep_row (by have := HG0.out; omega) hHeld.1.1, keep_row (by have := HG0.out; omega) hHeld.1.2.1, keep_row (by have := HG0.out; omega) hHeld.1.2.2⟩, hHeld.2.setRow (fun h => by have := HG0.out; omega) _⟩))
  clear hK K
  try (simp only [Act.put, List.setIfInBounds_toArray]; dsimp only [List.set_cons_zero, List.set_cons_succ])
  refine wpAnyH_done (by kernel_rfl) ?_ _
  refine NoPanic.normal ?_
  rotate_left
  go_simp
  refine hK.out _ _ ?_ (fun hHeld => ?_)
  · ((try dsimp only) <;> (first | exact ⟨⟨r0, r1, r2⟩, F.drew⟩ | exact ⟨⟨keep_fr f5 hHeld.1.1, keep_fr f5 hHeld.1.2.1, keep_fr f5 hHeld.1.2.2⟩, hHeld.2.trans' f5⟩ | exact ⟨⟨keep_alloc hHeld.1.1, keep_alloc hHeld.1.2.1, keep_alloc hHeld.1.2.2⟩, hHeld.2.alloc _⟩ | exact ⟨⟨keep_row (by have := HG0.out; omega) hHeld.1.1, keep_row (by have := HG0.out; omega) hHeld.1.2.1, keep_row (by have := HG0.out; omega) hHeld.1.2.2⟩, hHeld.2.setRow (fun h => by have := HG0.out; omega) _⟩))
  clear hK K
  try (simp only [Act.put, List.setIfInBounds_toArray]; dsimp only [List.set_cons_zero, List.set_cons_succ])
  refine wpAnyH_ready (rs := [3, 4]) (by kernel_rfl) (by simp) ?_
  refine AllReadyH.cons (o := ⟨_, _, _, _, _, _⟩) rfl (fun K hK => ?_) (AllReadyH.cons (o := ⟨_, _, _, _, _, _⟩) rfl (fun K hK => ?_) AllReadyH.nil)
  go_simp
  (refine (H2.out _).mono ?_; rintro e w5 ⟨rfl, f5⟩; have z5 := f5.size; (try simp only [World.size_alloc, heap_drew'] at z5))
  refine hK.out _ _ ?_ (fun hHeld => ?_)
  · ((try dsimp only) <;> (first | exact ⟨⟨r0, r1, r2⟩, F.drew⟩ | exact ⟨⟨keep_fr f5 hHeld.1.1, keep_fr f5 hHeld.1.2.1, keep_fr f5 hHeld.1.2.2⟩, hHeld.2.trans' f5⟩ | exact ⟨⟨keep_alloc hHeld.1.1, keep_alloc hHeld.1.2.1, keep_alloc hHeld.1.2.2⟩, hHeld.2.alloc _⟩ | exact ⟨⟨keep_row (by have := HG0.out; omega) hHeld.1.1, keep_row (by have := HG0.out; omega) hHeld.1.2.1, keep_row (by have := HG0.out; omega) hHeld.1.2.2⟩, hHeld.2.setRow (fun h => by have := HG0.out; omega) _⟩))
  clear hK K
  try (simp only [Act.put, List.setIfInBounds_toArray]; dsimp only [List.set_cons_zero, List.set_cons_succ])
  refine wpAnyH_ready (rs := [4]) (by kernel_rfl) (by simp) ?_
  refine AllReadyH.cons (o := ⟨_, _, _, _, _, _⟩) rfl (fun K hK => ?_) AllReadyH.nil
  go_simp
  refine hK.out _ _ ?_ (fun hHeld => ?_)
  · ((try dsimp only) <;> (first | exact ⟨⟨r0, r1, r2⟩, F.drew⟩ | exact ⟨⟨keep_fr f5 hHeld.1.1, keep_fr f5 hHeld.1.2.1, keep_fr f5 hHeld.1.2.2⟩, hHeld.2.trans' f5⟩ | exact ⟨⟨keep_alloc hHeld.1.1, keep_alloc hHeld.1.2.1, keep_alloc hHeld.1.2.2⟩, hHeld.2.alloc _⟩ | exact ⟨⟨keep_row (by have := HG0.out; omega) hHeld.1.1, keep_row (by have := HG0.out; omega) hHeld.1.2.1, keep_row (by have := HG0.out; omega) hHeld.1.2.2⟩, hHeld.2.setRow (fun h => by have := HG0.out; omega) _⟩))
  clear hK K
  try (simp only [Act.put, List.setIfInBounds_toArray]; dsimp only [List.set_cons_zero, List.set_cons_succ])
  refine wpAnyH_ready (rs := [6]) (by kernel_rfl) (by simp) ?_
  refine AllReadyH.cons (o := ⟨_, _, _, _, _, _⟩) rfl (fun K hK => ?_) AllReadyH.nil
  go_simp
  (try (rw [rowIn_of (old := rowN .u64 64 4 0) (t' := 24) (by ((try rw [← Array.getElem?_eq_getElem]); repeat (first | exact heap_alloc_new _ _ | exact heap_alloc2_new _ _ _ | refine keep_alloc ?_ | refine keep_fr (by assumption) ?_))) (rowN_size _ _ _ _) (rowN_size _ _ _ _) (rowN_rowOne _ _ _ _)]; go_simp))
  refine hK.out _ _ ?_ (fun hHeld => ?_)
  · ((try dsimp only) <;> (first | exact ⟨⟨r0, r1, r2⟩, F.drew⟩ | exact ⟨⟨keep_fr f5 hHeld.1.1, keep_fr f5 hHeld.1.2.1, keep_fr f5 hHeld.1.2.2⟩, hHeld.2.trans' f5⟩ | exact ⟨⟨keep_alloc hHeld.1.1, keep_alloc hHeld.1.2.1, keep_alloc hHeld.1.2.2⟩, hHeld.2.alloc _⟩ | exact ⟨⟨keep_row (by have := HG0.out; omega) hHeld.1.1, keep_row (by have := HG0.out; omega) hHeld.1.2.1, keep_row (by have := HG0.out; omega) hHeld.1.2.2⟩, hHeld.2.setRow (fun h => by have := HG0.out; omega) _⟩))
  clear hK K
  try (simp only [Act.put, List.setIfInBounds_toArray]; dsimp only [List.set_cons_zero, List.set_cons_succ])
  refine wpAnyH_ready (rs := [7]) (by kernel_rfl) (by simp) ?_
  refine AllReadyH.cons (o := ⟨_, _, _, _, _, _⟩) rfl (fun K hK => ?_) AllReadyH.nil
  go_simp
  (try (rw [rowIn_of (old := rowN .u64 64 4 0) (t' := 24) (by ((try rw [← Array.getElem?_eq_getElem]); repeat (first | exact heap_alloc_new _ _ | exact heap_alloc2_new _ _ _ | refine keep_row (by (try simp only [World.size_alloc]); omega) ?_ | refine keep_alloc ?_ | refine keep_fr (by assumption) ?_))) (rowN_size _ _ _ _) (rowN_size _ _ _ _) (rowN_rowOne _ _ _ _)]; go_simp))
  refine hK.out _ _ ?_ (fun hHeld => ?_)
  · ((try dsimp only) <;> (first | exact ⟨⟨r0, r1, r2⟩, F.drew⟩ | exact ⟨⟨keep_fr f5 hHeld.1.1, keep_fr f5 hHeld.1.2.1, keep_fr f5 hHeld.1.2.2⟩, hHeld.2.trans' f5⟩ | exact ⟨⟨keep_alloc hHeld.1.1, keep_alloc hHeld.1.2.1, keep_alloc hHeld.1.2.2⟩, hHeld.2.alloc _⟩ | exact ⟨⟨keep_row (by have := HG0.out; omega) hHeld.1.1, keep_row (by have := HG0.out; omega) hHeld.1.2.1, keep_row (by have := HG0.out; omega) hHeld.1.2.2⟩, hHeld.2.setRow (fun h => by have := HG0.out; omega) _⟩))
  clear hK K
  try (simp only [Act.put, List.setIfInBounds_toArray]; dsimp only [List.set_cons_zero, List.set_cons_succ])
  refine wpAnyH_done (by kernel_rfl) ?_ _
  refine NoPanic.normal ?_
  rotate_left
  go_simp
  refine hK.out _ _ ?_ (fun hHeld => ?_)
  · ((try dsimp only) <;> (first | exact ⟨⟨r0, r1, r2⟩, F.drew⟩ | exact ⟨⟨keep_fr f5 hHeld.1.1, keep_fr f5 hHeld.1.2.1, keep_fr f5 hHeld.1.2.2⟩, hHeld.2.trans' f5⟩ | exact ⟨⟨keep_alloc hHeld.1.1, keep_alloc hHeld.1.2.1, keep_alloc hHeld.1.2.2⟩, hHeld.2.alloc _⟩ | exact ⟨⟨keep_row (by have := HG0.out; omega) hHeld.1.1, keep_row (by have := HG0.out; omega) hHeld.1.2.1, keep_row (by have := HG0.out; omega) hHeld.1.2.2⟩, hHeld.2.setRow (fun h => by have := HG0.out; omega) _⟩))
  clear hK K
  try (simp only [Act.put, List.setIfInBounds_toArray]; dsimp only [List.set_cons_zero, List.set_cons_succ])
  refine wpAnyH_ready (rs := [3]) (by kernel_rfl) (by simp) ?_
  refine AllReadyH.cons (o := ⟨_, _, _, _, _, _⟩) rfl (fun K hK => ?_) AllReadyH.nil
  go_simp
  (refine (H2.out _).mono ?_; rintro e w5 ⟨rfl, f5⟩; have z5 := f5.size; (try simp only [World.size_alloc, heap_drew'] at z5))
  refine hK.out _ _ ?_ (fun hHeld => ?_)
  · ((try dsimp only) <;> (first | exact ⟨⟨r0, r1, r2⟩, F.drew⟩ | exact ⟨⟨keep_fr f5 hHeld.1.1, keep_fr f5 hHeld.1.2.1, keep_fr f5 hHeld.1.2.2⟩, hHeld.2.trans' f5⟩ | exact ⟨⟨keep_alloc hHeld.1.1, keep_alloc hHeld.1.2.1, keep_alloc hHeld.1.2.2⟩, hHeld.2.alloc _⟩ | exact ⟨⟨keep_row (by have := HG0.out; omega) hHeld.1.1, keep_row (by have := HG0.out; omega) hHeld.1.2.1, keep_row (by have := HG0.out; omega) hHeld.1.2.2⟩, hHeld.2.setRow (fun h => by have := HG0.out; omega) _⟩))
  clear hK K
  try (simp only [Act.put, List.setIfInBounds_toArray]; dsimp only [List.set_cons_zero, List.set_cons_succ])
  refine wpAnyH_ready (rs := [6]) (by kernel_rfl) (by simp) ?_
  refine AllReadyH.cons (o := ⟨_, _, _, _, _, _⟩) rfl (fun K hK => ?_) AllReadyH.nil
  go_simp
  (try (rw [rowIn_of (old := rowN .u64 64 4 0) (t' := 24) (by ((try rw [← Array.getElem?_eq_getElem]); repeat (first | exact heap_alloc_new _ _ | exact heap_alloc2_new _ _ _ | refine keep_alloc ?_ | refine keep_fr (by assumption) ?_))) (rowN_size _ _ _ _) (rowN_size _ _ _ _) (rowN_rowOne _ _ _ _)]; go_simp))
  refine hK.out _ _ ?_ (fun hHeld => ?_)
  · ((try dsimp only) <;> (first | exact ⟨⟨r0, r1, r2⟩, F.drew⟩ | exact ⟨⟨keep_fr f5 hHeld.1.1, keep_fr f5 hHeld.1.2.1, keep_fr f5 hHeld.1.2.2⟩, hHeld.2.trans' f5⟩ | exact ⟨⟨keep_alloc hHeld.1.1, keep_alloc hHeld.1.2.1, keep_alloc hHeld.1.2.2⟩, hHeld.2.alloc _⟩ | exact ⟨⟨keep_row (by have := HG0.out; omega) hHeld.1.1, keep_row (by have := HG0.out; omega) hHeld.1.2.1, keep_row (by have := HG0.out; omega) hHeld.1.2.2⟩, hHeld.2.setRow (fun h => by have := HG0.out; omega) _⟩))
  clear hK K
  try (simp only [Act.put, List.setIfInBounds_toArray]; dsimp only [List.set_cons_zero, List.set_cons_succ])
  refine wpAnyH_ready (rs := [7]) (by kernel_rfl) (by simp) ?_
  refine AllReadyH.cons (o := ⟨_, _, _, _, _, _⟩) rfl (fun K hK => ?_) AllReadyH.nil
  go_simp
  (try (rw [rowIn_of (old := rowN .u64 64 4 0) (t' := 24) (by ((try rw [← Array.getElem?_eq_getElem]); repeat (first | exact heap_alloc_new _ _ | exact heap_alloc2_new _ _ _ | refine keep_row (by (try simp only [World.size_alloc]); omega) ?_ | refine keep_alloc ?_ | refine keep_fr (by assumption) ?_))) (rowN_size _ _ _ _) (rowN_size _ _ _ _) (rowN_rowOne _ _ _ _)]; go_simp))
  refine hK.out _ _ ?_ (fun hHeld => ?_)
  · ((try dsimp only) <;> (first | exact ⟨⟨r0, r1, r2⟩, F.drew⟩ | exact ⟨⟨keep_fr f5 hHeld.1.1, keep_fr f5 hHeld.1.2.1, keep_fr f5 hHeld.1.2.2⟩, hHeld.2.trans' f5⟩ | exact ⟨⟨keep_alloc hHeld.1.1, keep_alloc hHeld.1.2.1, keep_alloc hHeld.1.2.2⟩, hHeld.2.alloc _⟩ | exact ⟨⟨keep_row (by have := HG0.out; omega) hHeld.1.1, keep_row (by have := HG0.out; omega) hHeld.1.2.1, keep_row (by have := HG0.out; omega) hHeld.1.2.2⟩, hHeld.2.setRow (fun h => by have := HG0.out; omega) _⟩))
  clear hK K
  try (simp only [Act.put, List.setIfInBounds_toArray]; dsimp only [List.set_cons_zero, List.set_cons_succ])
  refine wpAnyH_done (by kernel_rfl) ?_ _
  refine NoPanic.normal ?_
  rotate_left
  go_simp
  refine hK.out _ _ ?_ (fun hHeld => ?_)
  · ((try dsimp only) <;> (first | exact ⟨⟨r0, r1, r2⟩, F.drew⟩ | exact ⟨⟨keep_fr f5 hHeld.1.1, keep_fr f5 hHeld.1.2.1, keep_fr f5 hHeld.1.2.2⟩, hHeld.2.trans' f5⟩ | exact ⟨⟨keep_alloc hHeld.1.1, keep_alloc hHeld.1.2.1, keep_alloc hHeld.1.2.2⟩, hHeld.2.alloc _⟩ | exact ⟨⟨keep_row (by have := HG0.out; omega) hHeld.1.1, keep_row (by have := HG0.out; omega) hHeld.1.2.1, keep_row (by have := HG0.out; omega) hHeld.1.2.2⟩, hHeld.2.setRow (fun h => by have := HG0.out; omega) _⟩))
  clear hK K
  try (simp only [Act.put, List.setIfInBounds_toArray]; dsimp only [List.set_cons_zero, List.set_cons_succ])
  refine wpAnyH_ready (rs := [1, 5]) (by kernel_rfl) (by simp) ?_
  refine AllReadyH.cons (o := ⟨_, _, _, _, _, _⟩) rfl (fun K hK => ?_) (AllReadyH.cons (o := ⟨_, _, _, _, _, _⟩) rfl (fun K hK => ?_) AllReadyH.nil)
  go_simp
  (refine (H1.out _).mono ?_; rintro e w5 ⟨rfl, f5⟩; have z5 := f5.size; (try simp only [World.size_alloc, heap_drew'] at z5))
  refine hK.out _ _ ?_ (fun hHeld => ?_)
  · ((try dsimp only) <;> (first | exact ⟨⟨r0, r1, r2⟩, F.drew⟩ | exact ⟨⟨keep_fr f5 hHeld.1.1, keep_fr f5 hHeld.1.2.1, keep_fr f5 hHeld.1.2.2⟩, hHeld.2.trans' f5⟩ | exact ⟨⟨keep_alloc hHeld.1.1, keep_alloc hHeld.1.2.1, keep_alloc hHeld.1.2.2⟩, hHeld.2.alloc _⟩ | exact ⟨⟨keep_row (by have := HG0.out; omega) hHeld.1.1, keep_row (by have := HG0.out; omega) hHeld.1.2.1, keep_row (by have := HG0.out; omega) hHeld.1.2.2⟩, hHeld.2.setRow (fun h => by have := HG0.out; omega) _⟩))
  clear hK K
  try (simp only [Act.put, List.setIfInBounds_toArray]; dsimp only [List.set_cons_zero, List.set_cons_succ])
  refine wpAnyH_ready (rs := [3, 5]) (by kernel_rfl) (by simp) ?_
  refine AllReadyH.cons (o := ⟨_, _, _, _, _, _⟩) rfl (fun K hK => ?_) (AllReadyH.cons (o := ⟨_, _, _, _, _, _⟩) rfl (fun K hK => ?_) AllReadyH.nil)
  go_simp
  (refine (H2.out _).mono ?_; rintro e w5 ⟨rfl, f5⟩; have z5 := f5.size; (try simp only [World.size_alloc, heap_drew'] at z5))
  refine hK.out _ _ ?_ (fun hHeld => ?_)
  · ((try dsimp only) <;> (first | exact ⟨⟨r0, r1, r2⟩, F.drew⟩ | exact ⟨⟨keep_fr f5 hHeld.1.1, keep_fr f5 hHeld.1.2.1, keep_fr f5 hHeld.1.2.2⟩, hHeld.2.trans' f5⟩ | exact ⟨⟨keep_alloc hHeld.1.1, keep_alloc hHeld.1.2.1, keep_alloc hHeld.1.2.2⟩, hHeld.2.alloc _⟩ | exact ⟨⟨keep_row (by have := HG0.out; omega) hHeld.1.1, keep_row (by have := HG0.out; omega) hHeld.1.2.1, keep_row (by have := HG0.out; omega) hHeld.1.2.2⟩, hHeld.2.setRow (fun h => by have := HG0.out; omega) _⟩))
  clear hK K
  try (simp only [Act.put, List.setIfInBounds_toArray]; dsimp only [List.set_cons_zero, List.set_cons_succ])
  refine wpAnyH_ready (rs := [5]) (by kernel_rfl) (by simp) ?_
  refine AllReadyH.cons (o := ⟨_, _, _, _, _, _⟩) rfl (fun K hK => ?_) AllReadyH.nil
  go_simp
  refine hK.out _ _ ?_ (fun hHeld => ?_)
  · ((try dsimp only) <;> (first | exact ⟨⟨r0, r1, r2⟩, F.drew⟩ | exact ⟨⟨keep_fr f5 hHeld.1.1, keep_fr f5 hHeld.1.2.1, keep_fr f5 hHeld.1.2.2⟩, hHeld.2.trans' f5⟩ | exact ⟨⟨keep_alloc hHeld.1.1, keep_alloc hHeld.1.2.1, keep_alloc hHeld.1.2.2⟩, hHeld.2.alloc _⟩ | exact ⟨⟨keep_row (by have := HG0.out; omega) hHeld.1.1, keep_row (by have := HG0.out; omega) hHeld.1.2.1, keep_row (by have := HG0.out; omega) hHeld.1.2.2⟩, hHeld.2.setRow (fun h => by have := HG0.out; omega) _⟩))
  clear hK K
  try (simp only [Act.put, List.setIfInBounds_toArray]; dsimp only [List.set_cons_zero, List.set_cons_succ])
  refine wpAnyH_ready (rs := [6]) (by kernel_rfl) (by simp) ?_
  refine AllReadyH.cons (o := ⟨_, _, _, _, _, _⟩) rfl (fun K hK => ?_) AllReadyH.nil
  go_simp
  (try (rw [rowIn_of (old := rowN .u64 64 4 0) (t' := 24) (by ((try rw [← Array.getElem?_eq_getElem]); repeat (first | exact heap_alloc_new _ _ | exact heap_alloc2_new _ _ _ | refine keep_alloc ?_ | refine keep_fr (by assumption) ?_))) (rowN_size _ _ _ _) (rowN_size _ _ _ _) (rowN_rowOne _ _ _ _)]; go_simp))
  refine hK.out _ _ ?_ (fun hHeld => ?_)
  · ((try dsimp only) <;> (first | exact ⟨⟨r0, r1, r2⟩, F.drew⟩ | exact ⟨⟨keep_fr f5 hHeld.1.1, keep_fr f5 hHeld.1.2.1, keep_fr f5 hHeld.1.2.2⟩, hHeld.2.trans' f5⟩ | exact ⟨⟨keep_alloc hHeld.1.1, keep_alloc hHeld.1.2.1, keep_alloc hHeld.1.2.2⟩, hHeld.2.alloc _⟩ | exact ⟨⟨keep_row (by have := HG0.out; omega) hHeld.1.1, keep_row (by have := HG0.out; omega) hHeld.1.2.1, keep_row (by have := HG0.out; omega) hHeld.1.2.2⟩, hHeld.2.setRow (fun h => by have := HG0.out; omega) _⟩))
  clear hK K
  try (simp only [Act.put, List.setIfInBounds_toArray]; dsimp only [List.set_cons_zero, List.set_cons_succ])
  refine wpAnyH_ready (rs := [7]) (by kernel_rfl) (by simp) ?_
  refine AllReadyH.cons (o := ⟨_, _, _, _, _, _⟩) rfl (fun K hK => ?_) AllReadyH.nil
  go_simp
  (try (rw [rowIn_of (old := rowN .u64 64 4 0) (t' := 24) (by ((try rw [← Array.getElem?_eq_getElem]); repeat (first | exact heap_alloc_new _ _ | exact heap_alloc2_new _ _ _ | refine keep_row (by (try simp only [World.size_alloc]); omega) ?_ | refine keep_alloc ?_ | refine keep_fr (by assumption) ?_))) (rowN_size _ _ _ _) (rowN_size _ _ _ _) (rowN_rowOne _ _ _ _)]; go_simp))
  refine hK.out _ _ ?_ (fun hHeld => ?_)
  · ((try dsimp only) <;> (first | exact ⟨⟨r0, r1, r2⟩, F.drew⟩ | exact ⟨⟨keep_fr f5 hHeld.1.1, keep_fr f5 hHeld.1.2.1, keep_fr f5 hHeld.1.2.2⟩, hHeld.2.trans' f5⟩ | exact ⟨⟨keep_alloc hHeld.1.1, keep_alloc hHeld.1.2.1, keep_alloc hHeld.1.2.2⟩, hHeld.2.alloc _⟩ | exact ⟨⟨keep_row (by have := HG0.out; omega) hHeld.1.1, keep_row (by have := HG0.out; omega) hHeld.1.2.1, keep_row (by have := HG0.out; omega) hHeld.1.2.2⟩, hHeld.2.setRow (fun h => by have := HG0.out; omega) _⟩))
  clear hK K
  try (simp only [Act.put, List.setIfInBounds_toArray]; dsimp only [List.set_cons_zero, List.set_cons_succ])
  refine wpAnyH_done (by kernel_rfl) ?_ _
  refine NoPanic.normal ?_
  rotate_left
  go_simp
  refine hK.out _ _ ?_ (fun hHeld => ?_)
  · ((try dsimp only) <;> (first | exact ⟨⟨r0, r1, r2⟩, F.drew⟩ | exact ⟨⟨keep_fr f5 hHeld.1.1, keep_fr f5 hHeld.1.2.1, keep_fr f5 hHeld.1.2.2⟩, hHeld.2.trans' f5⟩ | exact ⟨⟨keep_alloc hHeld.1.1, keep_alloc hHeld.1.2.1, keep_alloc hHeld.1.2.2⟩, hHeld.2.alloc _⟩ | exact ⟨⟨keep_row (by have := HG0.out; omega) hHeld.1.1, keep_row (by have := HG0.out; omega) hHeld.1.2.1, keep_row (by have := HG0.out; omega) hHeld.1.2.2⟩, hHeld.2.setRow (fun h => by have := HG0.out; omega) _⟩))
  clear hK K
  try (simp only [Act.put, List.setIfInBounds_toArray]; dsimp only [List.set_cons_zero, List.set_cons_succ])
  refine wpAnyH_ready (rs := [3]) (by kernel_rfl) (by simp) ?_
  refine AllReadyH.cons (o := ⟨_, _, _, _, _, _⟩) rfl (fun K hK => ?_) AllReadyH.nil
  go_simp
  (refine (H2.out _).mono ?_; rintro e w5 ⟨rfl, f5⟩; have z5 := f5.size; (try simp only [World.size_alloc, heap_drew'] at z5))
  refine hK.out _ _ ?_ (fun hHeld => ?_)
  · ((try dsimp only) <;> (first | exact ⟨⟨r0, r1, r2⟩, F.drew⟩ | exact ⟨⟨keep_fr f5 hHeld.1.1, keep_fr f5 hHeld.1.2.1, keep_fr f5 hHeld.1.2.2⟩, hHeld.2.trans' f5⟩ | exact ⟨⟨keep_alloc hHeld.1.1, keep_alloc hHeld.1.2.1, keep_alloc hHeld.1.2.2⟩, hHeld.2.alloc _⟩ | exact ⟨⟨keep_row (by have := HG0.out; omega) hHeld.1.1, keep_row (by have := HG0.out; omega) hHeld.1.2.1, keep_row (by have := HG0.out; omega) hHeld.1.2.2⟩, hHeld.2.setRow (fun h => by have := HG0.out; omega) _⟩))
  clear hK K
  try (simp only [Act.put, List.setIfInBounds_toArray]; dsimp only [List.set_cons_zero, List.set_cons_succ])
  refine wpAnyH_ready (rs := [6]) (by kernel_rfl) (by simp) ?_
  refine AllReadyH.cons (o := ⟨_, _, _, _, _, _⟩) rfl (fun K hK => ?_) AllReadyH.nil
  go_simp
  (try (rw [rowIn_of (old := rowN .u64 64 4 0) (t' := 24) (by ((try rw [← Array.getElem?_eq_getElem]); repeat (first | exact heap_alloc_new _ _ | exact heap_alloc2_new _ _ _ | refine keep_alloc ?_ | refine keep_fr (by assumption) ?_))) (rowN_size _ _ _ _) (rowN_size _ _ _ _) (rowN_rowOne _ _ _ _)]; go_simp))
  refine hK.out _ _ ?_ (fun hHeld => ?_)
  · ((try dsimp only) <;> (first | exact ⟨⟨r0, r1, r2⟩, F.drew⟩ | exact ⟨⟨keep_fr f5 hHeld.1.1, keep_fr f5 hHeld.1.2.1, keep_fr f5 hHeld.1.2.2⟩, hHeld.2.trans' f5⟩ | exact ⟨⟨keep_alloc hHeld.1.1, keep_alloc hHeld.1.2.1, keep_alloc hHeld.1.2.2⟩, hHeld.2.alloc _⟩ | exact ⟨⟨keep_row (by have := HG0.out; omega) hHeld.1.1, keep_row (by have := HG0.out; omega) hHeld.1.2.1, keep_row (by have := HG0.out; omega) hHeld.1.2.2⟩, hHeld.2.setRow (fun h => by have := HG0.out; omega) _⟩))
  clear hK K
  try (simp only [Act.put, List.setIfInBounds_toArray]; dsimp only [List.set_cons_zero, List.set_cons_succ])
  refine wpAnyH_ready (rs := [7]) (by kernel_rfl) (by simp) ?_
  refine AllReadyH.cons (o := ⟨_, _, _, _, _, _⟩) rfl (fun K hK => ?_) AllReadyH.nil
  go_simp
  (try (rw [rowIn_of (old := rowN .u64 64 4 0) (t' := 24) (by ((try rw [← Array.getElem?_eq_getElem]); repeat (first | exact heap_alloc_new _ _ | exact heap_alloc2_new _ _ _ | refine keep_row (by (try simp only [World.size_alloc]); omega) ?_ | refine keep_alloc ?_ | refine keep_fr (by assumption) ?_))) (rowN_size _ _ _ _) (rowN_size _ _ _ _) (rowN_rowOne _ _ _ _)]; go_simp))
  refine hK.out _ _ ?_ (fun hHeld => ?_)
  · ((try dsimp only) <;> (first | exact ⟨⟨r0, r1, r2⟩, F.drew⟩ | exact ⟨⟨keep_fr f5 hHeld.1.1, keep_fr f5 hHeld.1.2.1, keep_fr f5 hHeld.1.2.2⟩, hHeld.2.trans' f5⟩ | exact ⟨⟨keep_alloc hHeld.1.1, keep_alloc hHeld.1.2.1, keep_alloc hHeld.1.2.2⟩, hHeld.2.alloc _⟩ | exact ⟨⟨keep_row (by have := HG0.out; omega) hHeld.1.1, keep_row (by have := HG0.out; omega) hHeld.1.2.1, keep_row (by have := HG0.out; omega) hHeld.1.2.2⟩, hHeld.2.setRow (fun h => by have := HG0.out; omega) _⟩))
  clear hK K
  try (simp only [Act.put, List.setIfInBounds_toArray]; dsimp only [List.set_cons_zero, List.set_cons_succ])
  refine wpAnyH_done (by kernel_rfl) ?_ _
  refine NoPanic.normal ?_
  rotate_left
  go_simp
  refine hK.out _ _ ?_ (fun hHeld => ?_)
  · ((try dsimp only) <;> (first | exact ⟨⟨r0, r1, r2⟩, F.drew⟩ | exact ⟨⟨keep_fr f5 hHeld.1.1, keep_fr f5 hHeld.1.2.1, keep_fr f5 hHeld.1.2.2⟩, hHeld.2.trans' f5⟩ | exact ⟨⟨keep_alloc hHeld.1.1, keep_alloc hHeld.1.2.1, keep_alloc hHeld.1.2.2⟩, hHeld.2.alloc _⟩ | exact ⟨⟨keep_row (by have := HG0.out; omega) hHeld.1.1, keep_row (by have := HG0.out; omega) hHeld.1.2.1, keep_row (by have := HG0.out; omega) hHeld.1.2.2⟩, hHeld.2.setRow (fun h => by have := HG0.out; omega) _⟩))
  clear hK K
  try (simp only [Act.put, List.setIfInBounds_toArray]; dsimp only [List.set_cons_zero, List.set_cons_succ])
  refine wpAnyH_ready (rs := [1]) (by kernel_rfl) (by simp) ?_
  refine AllReadyH.cons (o := ⟨_, _, _, _, _, _⟩) rfl (fun K hK => ?_) AllReadyH.nil
  go_simp
  (refine (H1.out _).mono ?_; rintro e w5 ⟨rfl, f5⟩; have z5 := f5.size; (try simp only [World.size_alloc, heap_drew'] at z5))
  refine hK.out _ _ ?_ (fun hHeld => ?_)
  · ((try dsimp only) <;> (first | exact ⟨⟨r0, r1, r2⟩, F.drew⟩ | exact ⟨⟨keep_fr f5 hHeld.1.1, keep_fr f5 hHeld.1.2.1, keep_fr f5 hHeld.1.2.2⟩, hHeld.2.trans' f5⟩ | exact ⟨⟨keep_alloc hHeld.1.1, keep_alloc hHeld.1.2.1, keep_alloc hHeld.1.2.2⟩, hHeld.2.alloc _⟩ | exact ⟨⟨keep_row (by have := HG0.out; omega) hHeld.1.1, keep_row (by have := HG0.out; omega) hHeld.1.2.1, keep_row (by have := HG0.out; omega) hHeld.1.2.2⟩, hHeld.2.setRow (fun h => by have := HG0.out; omega) _⟩))
  clear hK K
  try (simp only [Act.put, List.setIfInBounds_toArray]; dsimp only [List.set_cons_zero, List.set_cons_succ])
  refine wpAnyH_ready (rs := [3]) (by kernel_rfl) (by simp) ?_
  refine AllReadyH.cons (o := ⟨_, _, _, _, _, _⟩) rfl (fun K hK => ?_) AllReadyH.nil
  go_simp
  (refine (H2.out _).mono ?_; rintro e w5 ⟨rfl, f5⟩; have z5 := f5.size; (try simp only [World.size_alloc, heap_drew'] at z5))
  refine hK.out _ _ ?_ (fun hHeld => ?_)
  · ((try dsimp only) <;> (first | exact ⟨⟨r0, r1, r2⟩, F.drew⟩ | exact ⟨⟨keep_fr f5 hHeld.1.1, keep_fr f5 hHeld.1.2.1, keep_fr f5 hHeld.1.2.2⟩, hHeld.2.trans' f5⟩ | exact ⟨⟨keep_alloc hHeld.1.1, keep_alloc hHeld.1.2.1, keep_alloc hHeld.1.2.2⟩, hHeld.2.alloc _⟩ | exact ⟨⟨keep_row (by have := HG0.out; omega) hHeld.1.1, keep_row (by have := HG0.out; omega) hHeld.1.2.1, keep_row (by have := HG0.out; omega) hHeld.1.2.2⟩, hHeld.2.setRow (fun h => by have := HG0.out; omega) _⟩))
  clear hK K
  try (simp only [Act.put, List.setIfInBounds_toArray]; dsimp only [List.set_cons_zero, List.set_cons_succ])
  refine wpAnyH_ready (rs := [6]) (by kernel_rfl) (by simp) ?_
  refine AllReadyH.cons (o := ⟨_, _, _, _, _, _⟩) rfl (fun K hK => ?_) AllReadyH.nil
  go_simp
  (try (rw [rowIn_of (old := rowN .u64 64 4 0) (t' := 24) (by ((try rw [← Array.getElem?_eq_getElem]); repeat (first | exact heap_alloc_new _ _ | exact heap_alloc2_new _ _ _ | refine keep_alloc ?_ | refine keep_fr (by assumption) ?_))) (rowN_size _ _ _ _) (rowN_size _ _ _ _) (rowN_rowOne _ _ _ _)]; go_simp))
  refine hK.out _ _ ?_ (fun hHeld => ?_)
  · ((try dsimp only) <;> (first | exact ⟨⟨r0, r1, r2⟩, F.drew⟩ | exact ⟨⟨keep_fr f5 hHeld.1.1, keep_fr f5 hHeld.1.2.1, keep_fr f5 hHeld.1.2.2⟩, hHeld.2.trans' f5⟩ | exact ⟨⟨keep_alloc hHeld.1.1, keep_alloc hHeld.1.2.1, keep_alloc hHeld.1.2.2⟩, hHeld.2.alloc _⟩ | exact ⟨⟨keep_row (by have := HG0.out; omega) hHeld.1.1, keep_row (by have := HG0.out; omega) hHeld.1.2.1, keep_row (by have := HG0.out; omega) hHeld.1.2.2⟩, hHeld.2.setRow (fun h => by have := HG0.out; omega) _⟩))
  clear hK K
  try (simp only [Act.put, List.setIfInBounds_toArray]; dsimp only [List.set_cons_zero, List.set_cons_succ])
  refine wpAnyH_ready (rs := [7]) (by kernel_rfl) (by simp) ?_
  refine AllReadyH.cons (o := ⟨_, _, _, _, _, _⟩) rfl (fun K hK => ?_) AllReadyH.nil
  go_simp
  (try (rw [rowIn_of (old := rowN .u64 64 4 0) (t' := 24) (by ((try rw [← Array.getElem?_eq_getElem]); repeat (first | exact heap_alloc_new _ _ | exact heap_alloc2_new _ _ _ | refine keep_row (by (try simp only [World.size_alloc]); omega) ?_ | refine keep_alloc ?_ | refine keep_fr (by assumption) ?_))) (rowN_size _ _ _ _) (rowN_size _ _ _ _) (rowN_rowOne _ _ _ _)]; go_simp))
  refine hK.out _ _ ?_ (fun hHeld => ?_)
  · ((try dsimp only) <;> (first | exact ⟨⟨r0, r1, r2⟩, F.drew⟩ | exact ⟨⟨keep_fr f5 hHeld.1.1, keep_fr f5 hHeld.1.2.1, keep_fr f5 hHeld.1.2.2⟩, hHeld.2.trans' f5⟩ | exact ⟨⟨keep_alloc hHeld.1.1, keep_alloc hHeld.1.2.1, keep_alloc hHeld.1.2.2⟩, hHeld.2.alloc _⟩ | exact ⟨⟨keep_row (by have := HG0.out; omega) hHeld.1.1, keep_row (by have := HG0.out; omega) hHeld.1.2.1, keep_row (by have := HG0.out; omega) hHeld.1.2.2⟩, hHeld.2.setRow (fun h => by have := HG0.out; omega) _⟩))
  clear hK K
  try (simp only [Act.put, List.setIfInBounds_toArray]; dsimp only [List.set_cons_zero, List.set_cons_succ])
  refine wpAnyH_done (by kernel_rfl) ?_ _
  refine NoPanic.normal ?_
  rotate_left
  go_simp
  refine hK.out _ _ ?_ (fun hHeld => ?_)
  · ((try dsimp only) <;> (first | exact ⟨⟨r0, r1, r2⟩, F.drew⟩ | exact ⟨⟨keep_fr f5 hHeld.1.1, keep_fr f5 hHeld.1.2.1, keep_fr f5 hHeld.1.2.2⟩, hHeld.2.trans' f5⟩ | exact ⟨⟨keep_alloc hHeld.1.1, keep_alloc hHeld.1.2.1, keep_alloc hHeld.1.2.2⟩, hHeld.2.alloc _⟩ | exact ⟨⟨keep_row (by have := HG0.out; omega) hHeld.1.1, keep_row (by have := HG0.out; omega) hHeld.1.2.1, keep_row (by have := HG0.out; omega) hHeld.1.2.2⟩, hHeld.2.setRow (fun h => by have := HG0.out; omega) _⟩))
  clear hK K
  try (simp only [Act.put, List.setIfInBounds_toArray]; dsimp only [List.set_cons_zero, List.set_cons_succ])
  refine wpAnyH_ready (rs := [1, 4]) (by kernel_rfl) (by simp) ?_
  refine AllReadyH.cons (o := ⟨_, _, _, _, _, _⟩) rfl (fun K hK => ?_) (AllReadyH.cons (o := ⟨_, _, _, _, _, _⟩) rfl (fun K hK => ?_) AllReadyH.nil)
  go_simp
  (refine (H1.out _).mono ?_; rintro e w5 ⟨rfl, f5⟩; have z5 := f5.size; (try simp only [World.size_alloc, heap_drew'] at z5))
  refine hK.out _ _ ?_ (fun hHeld => ?_)
  · ((try dsimp only) <;> (first | exact ⟨⟨r0, r1, r2⟩, F.drew⟩ | exact ⟨⟨keep_fr f5 hHeld.1.1, keep_fr f5 hHeld.1.2.1, keep_fr f5 hHeld.1.2.2⟩, hHeld.2.trans' f5⟩ | exact ⟨⟨keep_alloc hHeld.1.1, keep_alloc hHeld.1.2.1, keep_alloc hHeld.1.2.2⟩, hHeld.2.alloc _⟩ | exact ⟨⟨keep_row (by have := HG0.out; omega) hHeld.1.1, keep_row (by have := HG0.out; omega) hHeld.1.2.1, keep_row (by have := HG0.out; omega) hHeld.1.2.2⟩, hHeld.2.setRow (fun h => by have := HG0.out; omega) _⟩))
  clear hK K
  try (simp only [Act.put, List.setIfInBounds_toArray]; dsimp only [List.set_cons_zero, List.set_cons_succ])
  refine wpAnyH_ready (rs := [3, 4]) (by kernel_rfl) (by simp) ?_
  refine AllReadyH.cons (o := ⟨_, _, _, _, _, _⟩) rfl (fun K hK => ?_) (AllReadyH.cons (o := ⟨_, _, _, _, _, _⟩) rfl (fun K hK => ?_) AllReadyH.nil)
  go_simp
  (refine (H2.out _).mono ?_; rintro e w5 ⟨rfl, f5⟩; have z5 := f5.size; (try simp only [World.size_alloc, heap_drew'] at z5))
  refine hK.out _ _ ?_ (fun hHeld => ?_)
  · ((try dsimp only) <;> (first | exact ⟨⟨r0, r1, r2⟩, F.drew⟩ | exact ⟨⟨keep_fr f5 hHeld.1.1, keep_fr f5 hHeld.1.2.1, keep_fr f5 hHeld.1.2.2⟩, hHeld.2.trans' f5⟩ | exact ⟨⟨keep_alloc hHeld.1.1, keep_alloc hHeld.1.2.1, keep_alloc hHeld.1.2.2⟩, hHeld.2.alloc _⟩ | exact ⟨⟨keep_row (by have := HG0.out; omega) hHeld.1.1, keep_row (by have := HG0.out; omega) hHeld.1.2.1, keep_row (by have := HG0.out; omega) hHeld.1.2.2⟩, hHeld.2.setRow (fun h => by have := HG0.out; omega) _⟩))
  clear hK K
  try (simp only [Act.put, List.setIfInBounds_toArray]; dsimp only [List.set_cons_zero, List.set_cons_succ])
  refine wpAnyH_ready (rs := [4]) (by kernel_rfl) (by simp) ?_
  refine AllReadyH.cons (o := ⟨_, _, _, _, _, _⟩) rfl (fun K hK => ?_) AllReadyH.nil
  go_simp
  refine hK.out _ _ ?_ (fun hHeld => ?_)
  · ((try dsimp only) <;> (first | exact ⟨⟨r0, r1, r2⟩, F.drew⟩ | exact ⟨⟨keep_fr f5 hHeld.1.1, keep_fr f5 hHeld.1.2.1, keep_fr f5 hHeld.1.2.2⟩, hHeld.2.trans' f5⟩ | exact ⟨⟨keep_alloc hHeld.1.1, keep_alloc hHeld.1.2.1, keep_alloc hHeld.1.2.2⟩, hHeld.2.alloc _⟩ | exact ⟨⟨keep_row (by have := HG0.out; omega) hHeld.1.1, keep_row (by have := HG0.out; omega) hHeld.1.2.1, keep_row (by have := HG0.out; omega) hHeld.1.2.2⟩, hHeld.2.setRow (fun h => by have := HG0.out; omega) _⟩))
  clear hK K
  try (simp only [Act.put, List.setIfInBounds_toArray]; dsimp only [List.set_cons_zero, List.set_cons_succ])
  refine wpAnyH_ready (rs := [6]) (by kernel_rfl) (by simp) ?_
  refine AllReadyH.cons (o := ⟨_, _, _, _, _, _⟩) rfl (fun K hK => ?_) AllReadyH.nil
  go_simp
  (try (rw [rowIn_of (old := rowN .u64 64 4 0) (t' := 24) (by ((try rw [← Array.getElem?_eq_getElem]); repeat (first | exact heap_alloc_new _ _ | exact heap_alloc2_new _ _ _ | refine keep_alloc ?_ | refine keep_fr (by assumption) ?_))) (rowN_size _ _ _ _) (rowN_size _ _ _ _) (rowN_rowOne _ _ _ _)]; go_simp))
  refine hK.out _ _ ?_ (fun hHeld => ?_)
  · ((try dsimp only) <;> (first | exact ⟨⟨r0, r1, r2⟩, F.drew⟩ | exact ⟨⟨keep_fr f5 hHeld.1.1, keep_fr f5 hHeld.1.2.1, keep_fr f5 hHeld.1.2.2⟩, hHeld.2.trans' f5⟩ | exact ⟨⟨keep_alloc hHeld.1.1, keep_alloc hHeld.1.2.1, keep_alloc hHeld.1.2.2⟩, hHeld.2.alloc _⟩ | exact ⟨⟨keep_row (by have := HG0.out; omega) hHeld.1.1, keep_row (by have := HG0.out; omega) hHeld.1.2.1, keep_row (by have := HG0.out; omega) hHeld.1.2.2⟩, hHeld.2.setRow (fun h => by have := HG0.out; omega) _⟩))
  clear hK K
  try (simp only [Act.put, List.setIfInBounds_toArray]; dsimp only [List.set_cons_zero, List.set_cons_succ])
  refine wpAnyH_ready (rs := [7]) (by kernel_rfl) (by simp) ?_
  refine AllReadyH.cons (o := ⟨_, _, _, _, _, _⟩) rfl (fun K hK => ?_) AllReadyH.nil
  go_simp
  (try (rw [rowIn_of (old := rowN .u64 64 4 0) (t' := 24) (by ((try rw [← Array.getElem?_eq_getElem]); repeat (first | exact heap_alloc_new _ _ | exact heap_alloc2_new _ _ _ | refine keep_row (by (try simp only [World.size_alloc]); omega) ?_ | refine keep_alloc ?_ | refine keep_fr (by assumption) ?_))) (rowN_size _ _ _ _) (rowN_size _ _ _ _) (rowN_rowOne _ _ _ _)]; go_simp))
  refine hK.out _ _ ?_ (fun hHeld => ?_)
  · ((try dsimp only) <;> (first | exact ⟨⟨r0, r1, r2⟩, F.drew⟩ | exact ⟨⟨keep_fr f5 hHeld.1.1, keep_fr f5 hHeld.1.2.1, keep_fr f5 hHeld.1.2.2⟩, hHeld.2.trans' f5⟩ | exact ⟨⟨keep_alloc hHeld.1.1, keep_alloc hHeld.1.2.1, keep_alloc hHeld.1.2.2⟩, hHeld.2.alloc _⟩ | exact ⟨⟨keep_row (by have := HG0.out; omega) hHeld.1.1, keep_row (by have := HG0.out; omega) hHeld.1.2.1, keep_row (by have := HG0.out; omega) hHeld.1.2.2⟩, hHeld.2.setRow (fun h => by have := HG0.out; omega) _⟩))
  clear hK K
  try (simp only [Act.put, List.setIfInBounds_toArray]; dsimp only [List.set_cons_zero, List.set_cons_succ])
  refine wpAnyH_done (by kernel_rfl) ?_ _
  refine NoPanic.normal ?_
  rotate_left
  go_simp
  refine hK.out _ _ ?_ (fun hHeld => ?_)
  · ((try dsimp only) <;> (first | exact ⟨⟨r0, r1, r2⟩, F.drew⟩ | exact ⟨⟨keep_fr f5 hHeld.1.1, keep_fr f5 hHeld.1.2.1, keep_fr f5 hHeld.1.2.2⟩, hHeld.2.trans' f5⟩ | exact ⟨⟨keep_alloc hHeld.1.1, keep_alloc hHeld.1.2.1, keep_alloc hHeld.1.2.2⟩, hHeld.2.alloc _⟩ | exact ⟨⟨keep_row (by have := HG0.out; omega) hHeld.1.1, keep_row (by have := HG0.out; omega) hHeld.1.2.1, keep_row (by have := HG0.out; omega) hHeld.1.2.2⟩, hHeld.2.setRow (fun h => by have := HG0.out; omega) _⟩))
  clear hK K
  try (simp only [Act.put, List.setIfInBounds_toArray]; dsimp only [List.set_cons_zero, List.set_cons_succ])
  refine wpAnyH_ready (rs := [3]) (by kernel_rfl) (by simp) ?_
  refine AllReadyH.cons (o := ⟨_, _, _, _, _, _⟩) rfl (fun K hK => ?_) AllReadyH.nil
  go_simp
  (refine (H2.out _).mono ?_; rintro e w5 ⟨rfl, f5⟩; have z5 := f5.size; (try simp only [World.size_alloc, heap_drew'] at z5))
  refine hK.out _ _ ?_ (fun hHeld => ?_)
  · ((try dsimp only) <;> (first | exact ⟨⟨r0, r1, r2⟩, F.drew⟩ | exact ⟨⟨keep_fr f5 hHeld.1.1, keep_fr f5 hHeld.1.2.1, keep_fr f5 hHeld.1.2.2⟩, hHeld.2.trans' f5⟩ | exact ⟨⟨keep_alloc hHeld.1.1, keep_alloc hHeld.1.2.1, keep_alloc hHeld.1.2.2⟩, hHeld.2.alloc _⟩ | exact ⟨⟨keep_row (by have := HG0.out; omega) hHeld.1.1, keep_row (by have := HG0.out; omega) hHeld.1.2.1, keep_row (by have := HG0.out; omega) hHeld.1.2.2⟩, hHeld.2.setRow (fun h => by have := HG0.out; omega) _⟩))
  clear hK K
  try (simp only [Act.put, List.setIfInBounds_toArray]; dsimp only [List.set_cons_zero, List.set_cons_succ])
  refine wpAnyH_ready (rs := [6]) (by kernel_rfl) (by simp) ?_
  refine AllReadyH.cons (o := ⟨_, _, _, _, _, _⟩) rfl (fun K hK => ?_) AllReadyH.nil
  go_simp
  (try (rw [rowIn_of (old := rowN .u64 64 4 0) (t' := 24) (by ((try rw [← Array.getElem?_eq_getElem]); repeat (first | exact heap_alloc_new _ _ | exact heap_alloc2_new _ _ _ | refine keep_alloc ?_ | refine keep_fr (by assumption) ?_))) (rowN_size _ _ _ _) (rowN_size _ _ _ _) (rowN_rowOne _ _ _ _)]; go_simp))
  refine hK.out _ _ ?_ (fun hHeld => ?_)
  · ((try dsimp only) <;> (first | exact ⟨⟨r0, r1, r2⟩, F.drew⟩ | exact ⟨⟨keep_fr f5 hHeld.1.1, keep_fr f5 hHeld.1.2.1, keep_fr f5 hHeld.1.2.2⟩, hHeld.2.trans' f5⟩ | exact ⟨⟨keep_alloc hHeld.1.1, keep_alloc hHeld.1.2.1, keep_alloc hHeld.1.2.2⟩, hHeld.2.alloc _⟩ | exact ⟨⟨keep_row (by have := HG0.out; omega) hHeld.1.1, keep_row (by have := HG0.out; omega) hHeld.1.2.1, keep_row (by have := HG0.out; omega) hHeld.1.2.2⟩, hHeld.2.setRow (fun h => by have := HG0.out; omega) _⟩))
  clear hK K
  try (simp only [Act.put, List.setIfInBounds_toArray]; dsimp only [List.set_cons_zero, List.set_cons_succ])
  refine wpAnyH_ready (rs := [7]) (by kernel_rfl) (by simp) ?_
  refine AllReadyH.cons (o := ⟨_, _, _, _, _, _⟩) rfl (fun K hK => ?_) AllReadyH.nil
  go_simp
  (try (rw [rowIn_of (old := rowN .u64 64 4 0) (t' := 24) (by ((try rw [← Array.getElem?_eq_getElem]); repeat (first | exact heap_alloc_new _ _ | exact heap_alloc2_new _ _ _ | refine keep_row (by (try simp only [World.size_alloc]); omega) ?_ | refine keep_alloc ?_ | refine keep_fr (by assumption) ?_))) (rowN_size _ _ _ _) (rowN_size _ _ _ _) (rowN_rowOne _ _ _ _)]; go_simp))
  refine hK.out _ _ ?_ (fun hHeld => ?_)
  · ((try dsimp only) <;> (first | exact ⟨⟨r0, r1, r2⟩, F.drew⟩ | exact ⟨⟨keep_fr f5 hHeld.1.1, keep_fr f5 hHeld.1.2.1, keep_fr f5 hHeld.1.2.2⟩, hHeld.2.trans' f5⟩ | exact ⟨⟨keep_alloc hHeld.1.1, keep_alloc hHeld.1.2.1, keep_alloc hHeld.1.2.2⟩, hHeld.2.alloc _⟩ | exact ⟨⟨keep_row (by have := HG0.out; omega) hHeld.1.1, keep_row (by have := HG0.out; omega) hHeld.1.2.1, keep_row (by have := HG0.out; omega) hHeld.1.2.2⟩, hHeld.2.setRow (fun h => by have := HG0.out; omega) _⟩))
  clear hK K
  try (simp only [Act.put, List.setIfInBounds_toArray]; dsimp only [List.set_cons_zero, List.set_cons_succ])
  refine wpAnyH_done (by kernel_rfl) ?_ _
  refine NoPanic.normal ?_
  rotate_left
  go_simp
  refine hK.out _ _ ?_ (fun hHeld => ?_)
  · ((try dsimp only) <;> (first | exact ⟨⟨r0, r1, r2⟩, F.drew⟩ | exact ⟨⟨keep_fr f5 hHeld.1.1, keep_fr f5 hHeld.1.2.1, keep_fr f5 hHeld.1.2.2⟩, hHeld.2.trans' f5⟩ | exact ⟨⟨keep_alloc hHeld.1.1, keep_alloc hHeld.1.2.1, keep_alloc hHeld.1.2.2⟩, hHeld.2.alloc _⟩ | exact ⟨⟨keep_row (by have := HG0.out; omega) hHeld.1.1, keep_row (by have := HG0.out; omega) hHeld.1.2.1, keep_row (by have := HG0.out; omega) hHeld.1.2.2⟩, hHeld.2.setRow (fun h => by have := HG0.out; omega) _⟩))
  clear hK K
  try (simp only [Act.put, List.setIfInBounds_toArray]; dsimp only [List.set_cons_zero, List.set_cons_succ])
  refine wpAnyH_ready (rs := [1]) (by kernel_rfl) (by simp) ?_
  refine AllReadyH.cons (o := ⟨_, _, _, _, _, _⟩) rfl (fun K hK => ?_) AllReadyH.nil
  go_simp
  (refine (H1.out _).mono ?_; rintro e w5 ⟨rfl, f5⟩; have z5 := f5.size; (try simp only [World.size_alloc, heap_drew'] at z5))
  refine hK.out _ _ ?_ (fun hHeld => ?_)
  · ((try dsimp only) <;> (first | exact ⟨⟨r0, r1, r2⟩, F.drew⟩ | exact ⟨⟨keep_fr f5 hHeld.1.1, keep_fr f5 hHeld.1.2.1, keep_fr f5 hHeld.1.2.2⟩, hHeld.2.trans' f5⟩ | exact ⟨⟨keep_alloc hHeld.1.1, keep_alloc hHeld.1.2.1, keep_alloc hHeld.1.2.2⟩, hHeld.2.alloc _⟩ | exact ⟨⟨keep_row (by have := HG0.out; omega) hHeld.1.1, keep_row (by have := HG0.out; omega) hHeld.1.2.1, keep_row (by have := HG0.out; omega) hHeld.1.2.2⟩, hHeld.2.setRow (fun h => by have := HG0.out; omega) _⟩))
  clear hK K
  try (simp only [Act.put, List.setIfInBounds_toArray]; dsimp only [List.set_cons_zero, List.set_cons_succ])
  refine wpAnyH_ready (rs := [3]) (by kernel_rfl) (by simp) ?_
  refine AllReadyH.cons (o := ⟨_, _, _, _, _, _⟩) rfl (fun K hK => ?_) AllReadyH.nil
  go_simp
  (refine (H2.out _).mono ?_; rintro e w5 ⟨rfl, f5⟩; have z5 := f5.size; (try simp only [World.size_alloc, heap_drew'] at z5))
  refine hK.out _ _ ?_ (fun hHeld => ?_)
  · ((try dsimp only) <;> (first | exact ⟨⟨r0, r1, r2⟩, F.drew⟩ | exact ⟨⟨keep_fr f5 hHeld.1.1, keep_fr f5 hHeld.1.2.1, keep_fr f5 hHeld.1.2.2⟩, hHeld.2.trans' f5⟩ | exact ⟨⟨keep_alloc hHeld.1.1, keep_alloc hHeld.1.2.1, keep_alloc hHeld.1.2.2⟩, hHeld.2.alloc _⟩ | exact ⟨⟨keep_row (by have := HG0.out; omega) hHeld.1.1, keep_row (by have := HG0.out; omega) hHeld.1.2.1, keep_row (by have := HG0.out; omega) hHeld.1.2.2⟩, hHeld.2.setRow (fun h => by have := HG0.out; omega) _⟩))
  clear hK K
  try (simp only [Act.put, List.setIfInBounds_toArray]; dsimp only [List.set_cons_zero, List.set_cons_succ])
  refine wpAnyH_ready (rs := [6]) (by kernel_rfl) (by simp) ?_
  refine AllReadyH.cons (o := ⟨_, _, _, _, _, _⟩) rfl (fun K hK => ?_) AllReadyH.nil
  go_simp
  (try (rw [rowIn_of (old := rowN .u64 64 4 0) (t' := 24) (by ((try rw [← Array.getElem?_eq_getElem]); repeat (first | exact heap_alloc_new _ _ | exact heap_alloc2_new _ _ _ | refine keep_alloc ?_ | refine keep_fr (by assumption) ?_))) (rowN_size _ _ _ _) (rowN_size _ _ _ _) (rowN_rowOne _ _ _ _)]; go_simp))
  refine hK.out _ _ ?_ (fun hHeld => ?_)
  · ((try dsimp only) <;> (first | exact ⟨⟨r0, r1, r2⟩, F.drew⟩ | exact ⟨⟨keep_fr f5 hHeld.1.1, keep_fr f5 hHeld.1.2.1, keep_fr f5 hHeld.1.2.2⟩, hHeld.2.trans' f5⟩ | exact ⟨⟨keep_alloc hHeld.1.1, keep_alloc hHeld.1.2.1, keep_alloc hHeld.1.2.2⟩, hHeld.2.alloc _⟩ | exact ⟨⟨keep_row (by have := HG0.out; omega) hHeld.1.1, keep_row (by have := HG0.out; omega) hHeld.1.2.1, keep_row (by have := HG0.out; omega) hHeld.1.2.2⟩, hHeld.2.setRow (fun h => by have := HG0.out; omega) _⟩))
  clear hK K
  try (simp only [Act.put, List.setIfInBounds_toArray]; dsimp only [List.set_cons_zero, List.set_cons_succ])
  refine wpAnyH_ready (rs := [7]) (by kernel_rfl) (by simp) ?_
  refine AllReadyH.cons (o := ⟨_, _, _, _, _, _⟩) rfl (fun K hK => ?_) AllReadyH.nil
  go_simp
  (try (rw [rowIn_of (old := rowN .u64 64 4 0) (t' := 24) (by ((try rw [← Array.getElem?_eq_getElem]); repeat (first | exact heap_alloc_new _ _ | exact heap_alloc2_new _ _ _ | refine keep_row (by (try simp only [World.size_alloc]); omega) ?_ | refine keep_alloc ?_ | refine keep_fr (by assumption) ?_))) (rowN_size _ _ _ _) (rowN_size _ _ _ _) (rowN_rowOne _ _ _ _)]; go_simp))
  refine hK.out _ _ ?_ (fun hHeld => ?_)
  · ((try dsimp only) <;> (first | exact ⟨⟨r0, r1, r2⟩, F.drew⟩ | exact ⟨⟨keep_fr f5 hHeld.1.1, keep_fr f5 hHeld.1.2.1, keep_fr f5 hHeld.1.2.2⟩, hHeld.2.trans' f5⟩ | exact ⟨⟨keep_alloc hHeld.1.1, keep_alloc hHeld.1.2.1, keep_alloc hHeld.1.2.2⟩, hHeld.2.alloc _⟩ | exact ⟨⟨keep_row (by have := HG0.out; omega) hHeld.1.1, keep_row (by have := HG0.out; omega) hHeld.1.2.1, keep_row (by have := HG0.out; omega) hHeld.1.2.2⟩, hHeld.2.setRow (fun h => by have := HG0.out; omega) _⟩))
  clear hK K
  try (simp only [Act.put, List.setIfInBounds_toArray]; dsimp only [List.set_cons_zero, List.set_cons_succ])
  refine wpAnyH_done (by kernel_rfl) ?_ _
  refine NoPanic.normal ?_
  rotate_left
  all_goals
    refine hK.out ⟨⟨_, _, rfl, rfl, ?_, ?_⟩, hHeld.1, hHeld.2⟩
    · refine keep_row (by (try simp only [World.size_alloc]); omega) (new_row (z := rowN .u64 64 4 0) (t := 24) (f := (0, 0)) ?_)
      repeat (first | exact heap_alloc_new _ _ | exact heap_alloc2_new _ _ _ | refine keep_alloc ?_ | refine keep_fr (by assumption) ?_)
    · refine new_row (z := rowN .u64 64 4 0) (t := 24) (f := (0, 0)) (keep_row (by (try simp only [World.size_alloc]); omega) ?_)
      repeat (first | exact heap_alloc_new _ _ | exact heap_alloc2_new _ _ _ | refine keep_alloc ?_ | refine keep_fr (by assumption) ?_)

theorem lg_256 : lg 256 = 1 := by decide
theorem dg_256 : dg 256 = [256] := by unfold dg; rw [lg_256]; simp [ds, dgt]
theorem pow8_32 : 2 ^ (8 * 32) = W256 := rfl

set_option maxRecDepth 100000 in
set_option maxHeartbeats 16000000 in
theorem targetWorks_any (HD : DecC) (HW : WorkC) (HM : MeetsC) (t u h : Nat) (ht : t < W256) (hu : u < W256) (hh : h < W256) (w : World) :
    Calls Try.prog 5 #[.agg (rowN .u64 64 4 t), .agg (rowN .u64 64 4 u), .agg (rowN .u8 8 32 h)] w fun e w' => e = .returned (.bool true) ∧ Fr F0 w w' := by
  have HL := Lib.hid (lives06_any HD HW)
  have H1 := Lib.hid (HW t ht)
  have H2 := Lib.hid (HW u hu)
  have H3 := Lib.hid (r3Of_any t ht)
  have H4 := Lib.hid (fun a c w h => r6Work_any t a c ht w h)
  have H5 := Lib.hid (is06_yes (wkN t) wkN_wide)
  have H6 := Lib.hid (wCmp_any t u ht hu)
  have H7 := Lib.hid (wCmp_any (wkN t) (wkN u) wkN_wide wkN_wide)
  obtain ⟨o, ho⟩ : ∃ o, decide (h ≤ t) = o := ⟨_, rfl⟩
  have H8 := Lib.hid (HM h t o hh ht ho)
  have HMu := Lib.hid (fun x (hx : lg x ≤ 10000) a c a2 c2 w h1 (h2 : Us w a2 c2 [256]) => by
    have := r3Mul_any x 256 a c a2 c2 hx (lg_w10 (word_w (by omega))) w h1 (by unfold Ns; rw [dg_256]; exact h2)
    rwa [lg_256] at this)
  have HAd := Lib.hid (fun x y (hx : lg x ≤ 10000) (hy : lg y ≤ 10000) a c a2 c2 w h1 h2 => r3Add_any x y a c a2 c2 hx hy w h1 h2)
  have HCm := Lib.hid (fun a c a2 c2 w h1 h2 => r3Cmp_any h t a c a2 c2 (lg_w10 hh) (lg_w10 ht) w h1 h2)
  have hs : sgn t u ≤ 0 → ¬ sgn (wkN t) (wkN u) < 0 := by
    unfold sgn
    intro h1
    have h2 : t ≤ u := by
      refine Nat.le_of_not_lt fun h3 => ?_
      rw [if_neg (by omega), if_pos h3] at h1
      omega
    have := wkN_le h2
    rw [if_neg (by omega)]
    split <;> omega
  have hz : (o = true ∧ cmpZ h t ≤ 0) ∨ (o = false ∧ ¬ cmpZ h t ≤ 0) := by
    rw [← ho]
    unfold cmpZ
    by_cases h1 : h ≤ t
    · exact .inl ⟨decide_eq_true h1, by split <;> (try split) <;> omega⟩
    · exact .inr ⟨decide_eq_false h1, by rw [if_neg (by omega), if_pos (by omega)]; omega⟩
  have h32 : h / 2 ^ (8 * 32) = 0 := Nat.div_eq_of_lt hh
  have hlh : ∀ j, lg (h / 2 ^ (8 * j)) ≤ 5000 := fun j => lg_w (Nat.lt_of_le_of_lt (Nat.div_le_self _ _) hh)
  have HHW := Lib.hid hh
  clear ht hu ho HD HW HM hh
  generalize sgn (wkN t) (wkN u) = s2 at *
  generalize sgn t u = s1 at *
  generalize cmpZ h t = z at *
  generalize wkN t = q at *
  generalize wkN u = r at *
  have HS := Lib.hid hs
  have HZ := Lib.hid hz
  have H32 := Lib.hid h32
  have HLH := Lib.hid hlh
  clear hs hz h32 hlh
  go_enter Try.func5, Try.ntmps5
  go_wp2_with fail
  obtain ⟨W0, hW0⟩ : ∃ W, W = ((w.alloc (.cells (rowN .u64 64 4 t) 24)).alloc (.cells (rowN .u64 64 4 u) 24)).alloc (.cells (rowN .u8 8 32 h) 26) := ⟨_, rfl⟩
  refine Calls.of_world W0 hW0 ?_
  obtain ⟨r0, r1, r2⟩ := heap3 w (.cells (rowN .u64 64 4 t) 24) (.cells (rowN .u64 64 4 u) 24) (.cells (rowN .u8 8 32 h) 26)
  rw [← hW0] at r0 r1 r2
  have F : Fr F0 w W0 := by rw [hW0]; exact (((Fr.refl F0 w).alloc _).alloc _).alloc _
  clear hW0
  generalize hg2 : w.heap.size + 1 + 1 = g2 at *
  generalize hg1 : w.heap.size + 1 = g1 at *
  generalize hg0 : w.heap.size = g0 at *
  clear hg2 hg1 hg0
  (with_reducible refine (HL.out _).mono ?_); rintro e w1 ⟨rfl, f⟩
  replace F := F.trans' f
  replace r0 := keep_fr f r0
  replace r1 := keep_fr f r1
  replace r2 := keep_fr f r2
  clear f HL
  go_wp2_with fail
  refine tw3 w w1 t u h q r g0 g1 g2 H1 H2 r0 r1 r2 F (Lib.hid ?_)
  clear r0 r1 r2 F H1 H2
  rename_i w2
  rintro ⟨⟨p1, p2, rfl, rfl, rp1, rp2⟩, ⟨r0, r1, r2⟩, F⟩
  by_cases l1 : s1 ≤ 0
  · have l2 := HS.out l1
    go_upto_region 4 with fail
    refine wp_region_noPanic ?_
    refine wp_region_held_drew (S := (fun w' => (w'.heap[g0]? = some (.cells (rowN .u64 64 4 t) 24 (0, 0)) ∧ w'.heap[g1]? = some (.cells (rowN .u64 64 4 u) 24 (0, 0)) ∧ w'.heap[g2]? = some (.cells (rowN .u8 8 32 h) 26 (0, 0)) ∧ w'.heap[p1]? = some (.cells (rowN .u64 64 4 q) 24 (0, 0)) ∧ w'.heap[p2]? = some (.cells (rowN .u64 64 4 r) 24 (0, 0))) ∧ Fr F0 w w')) (by kernel_rfl) ?_ (fun hHeld => ?_)
    · ((try dsimp only) <;> (first | exact ⟨⟨r0, r1, r2, rp1, rp2⟩, F.drew⟩ | exact hHeld | exact ⟨⟨keep_fr f5 hHeld.1.1, keep_fr f5 hHeld.1.2.1, keep_fr f5 hHeld.1.2.2.1, keep_fr f5 hHeld.1.2.2.2.1, keep_fr f5 hHeld.1.2.2.2.2⟩, hHeld.2.trans' f5⟩))
    refine wpAnyH_take (i := 0) (oi := ⟨_, _, _, _, _, _⟩) (v := ?_) rfl (by kernel_rfl) (by kernel_rfl) (by kernel_rfl) (fun _ _ _ h => h) (Or.inl ⟨by rfl, ?_⟩) (by assumption) ?_
    rotate_left
    · intro w hSw; (try dsimp only at hSw); go_simp; (try (with_reducible rfl)); done
    simp only [Act.put, List.setIfInBounds_toArray]; dsimp only [List.set_cons_zero, List.set_cons_succ]
    refine wpAnyH_take (i := 1) (oi := ⟨_, _, _, _, _, _⟩) (v := ?_) rfl (by kernel_rfl) (by kernel_rfl) (by kernel_rfl) (fun _ _ _ h => h) (Or.inl ⟨by rfl, ?_⟩) (by assumption) ?_
    rotate_left
    · intro w hSw; (try dsimp only at hSw); go_simp; (try (with_reducible rfl)); done
    simp only [Act.put, List.setIfInBounds_toArray]; dsimp only [List.set_cons_zero, List.set_cons_succ]
    refine wpAnyH_ready (rs := [2]) (by kernel_rfl) (by simp) ?_
    refine AllReadyH.cons (o := ⟨_, _, _, _, _, _⟩) rfl (fun K hK => ?_) AllReadyH.nil
    go_simp
    ((with_reducible refine (H3.out _).mono ?_); rintro e w5 ⟨p5, k5, rfl, n5, f5⟩)
    refine hK.out _ _ ?_ (fun hHeld => ?_)
    · ((try dsimp only) <;> (first | exact ⟨⟨r0, r1, r2, rp1, rp2⟩, F.drew⟩ | exact hHeld | exact ⟨⟨keep_fr f5 hHeld.1.1, keep_fr f5 hHeld.1.2.1, keep_fr f5 hHeld.1.2.2.1, keep_fr f5 hHeld.1.2.2.2.1, keep_fr f5 hHeld.1.2.2.2.2⟩, hHeld.2.trans' f5⟩))
    clear hK K
    try (simp only [Act.put, List.setIfInBounds_toArray]; dsimp only [List.set_cons_zero, List.set_cons_succ])
    refine wpAnyH_ready (rs := [3]) (by kernel_rfl) (by simp) ?_
    refine AllReadyH.cons (o := ⟨_, _, _, _, _, _⟩) rfl (fun K hK => ?_) AllReadyH.nil
    go_simp
    ((with_reducible refine (H4.out _ _ _ n5).mono ?_); rintro e w6 ⟨p6, k6, rfl, n6, f5⟩)
    refine hK.out _ _ ?_ (fun hHeld => ?_)
    · ((try dsimp only) <;> (first | exact ⟨⟨r0, r1, r2, rp1, rp2⟩, F.drew⟩ | exact hHeld | exact ⟨⟨keep_fr f5 hHeld.1.1, keep_fr f5 hHeld.1.2.1, keep_fr f5 hHeld.1.2.2.1, keep_fr f5 hHeld.1.2.2.2.1, keep_fr f5 hHeld.1.2.2.2.2⟩, hHeld.2.trans' f5⟩))
    clear hK K
    try (simp only [Act.put, List.setIfInBounds_toArray]; dsimp only [List.set_cons_zero, List.set_cons_succ])
    refine wpAnyH_ready (rs := [4]) (by kernel_rfl) (by simp) ?_
    refine AllReadyH.cons (o := ⟨_, _, _, _, _, _⟩) rfl (fun K hK => ?_) AllReadyH.nil
    go_simp
    ((with_reducible refine (H5.out _ _ _ n6).mono ?_); rintro e w7 ⟨rfl, f5⟩)
    refine hK.out _ _ ?_ (fun hHeld => ?_)
    · ((try dsimp only) <;> (first | exact ⟨⟨r0, r1, r2, rp1, rp2⟩, F.drew⟩ | exact hHeld | exact ⟨⟨keep_fr f5 hHeld.1.1, keep_fr f5 hHeld.1.2.1, keep_fr f5 hHeld.1.2.2.1, keep_fr f5 hHeld.1.2.2.2.1, keep_fr f5 hHeld.1.2.2.2.2⟩, hHeld.2.trans' f5⟩))
    clear hK K
    try (simp only [Act.put, List.setIfInBounds_toArray]; dsimp only [List.set_cons_zero, List.set_cons_succ])
    refine wpAnyH_take (i := 5) (oi := ⟨_, _, _, _, _, _⟩) (v := ?_) rfl (by kernel_rfl) (by kernel_rfl) (by kernel_rfl) (fun _ _ _ h => h) (Or.inl ⟨by rfl, ?_⟩) (by assumption) ?_
    rotate_left
    · intro w hSw; (try dsimp only at hSw); go_simp; (try (with_reducible rfl)); done
    simp only [Act.put, List.setIfInBounds_toArray]; dsimp only [List.set_cons_zero, List.set_cons_succ]
    refine wpAnyH_take (i := 6) (oi := ⟨_, _, _, _, _, _⟩) (v := ?_) rfl (by kernel_rfl) (by kernel_rfl) (by kernel_rfl) (fun _ _ _ h => h) (Or.inl ⟨by rfl, ?_⟩) (by assumption) ?_
    rotate_left
    · intro w hSw; (try dsimp only at hSw); go_simp; (try (with_reducible rfl)); done
    simp only [Act.put, List.setIfInBounds_toArray]; dsimp only [List.set_cons_zero, List.set_cons_succ]
    refine wpAnyH_take (i := 7) (oi := ⟨_, _, _, _, _, _⟩) (v := ?_) rfl (by kernel_rfl) (by kernel_rfl) (by kernel_rfl) (fun _ _ _ h => h) (Or.inl ⟨by rfl, ?_⟩) (by assumption) ?_
    rotate_left
    · intro w hSw; (try dsimp only at hSw); go_simp; (try (with_reducible rfl)); done
    simp only [Act.put, List.setIfInBounds_toArray]; dsimp only [List.set_cons_zero, List.set_cons_succ]
    refine wpAnyH_take (i := 8) (oi := ⟨_, _, _, _, _, _⟩) (v := ?_) rfl (by kernel_rfl) (by kernel_rfl) (by kernel_rfl) (fun _ _ _ h => h) (Or.inl ⟨by rfl, ?_⟩) (by assumption) ?_
    rotate_left
    · intro w hSw; (try dsimp only at hSw); go_simp; (try (with_reducible rfl)); done
    simp only [Act.put, List.setIfInBounds_toArray]; dsimp only [List.set_cons_zero, List.set_cons_succ]
    refine wpAnyH_ready (rs := [9]) (by kernel_rfl) (by simp) ?_
    refine AllReadyH.cons (o := ⟨_, _, _, _, _, _⟩) rfl (fun K hK => ?_) AllReadyH.nil
    go_simp
    ((with_reducible refine (H6.out _).mono ?_); rintro e w8 ⟨rfl, f5⟩)
    refine hK.out _ _ ?_ (fun hHeld => ?_)
    · ((try dsimp only) <;> (first | exact ⟨⟨r0, r1, r2, rp1, rp2⟩, F.drew⟩ | exact hHeld | exact ⟨⟨keep_fr f5 hHeld.1.1, keep_fr f5 hHeld.1.2.1, keep_fr f5 hHeld.1.2.2.1, keep_fr f5 hHeld.1.2.2.2.1, keep_fr f5 hHeld.1.2.2.2.2⟩, hHeld.2.trans' f5⟩))
    clear hK K
    try (simp only [Act.put, List.setIfInBounds_toArray]; dsimp only [List.set_cons_zero, List.set_cons_succ])
    refine wpAnyH_take (i := 10) (oi := ⟨_, _, _, _, _, _⟩) (v := ?_) rfl (by kernel_rfl) (by kernel_rfl) (by kernel_rfl) (fun _ _ _ h => h) (Or.inl ⟨by rfl, ?_⟩) (by assumption) ?_
    rotate_left
    · intro w hSw; (try dsimp only at hSw); go_simp; (try (with_reducible rfl)); done
    simp only [Act.put, List.setIfInBounds_toArray]; dsimp only [List.set_cons_zero, List.set_cons_succ]
    refine wpAnyH_take (i := 11) (oi := ⟨_, _, _, _, _, _⟩) (v := ?_) rfl (by kernel_rfl) (by kernel_rfl) (by kernel_rfl) (fun _ _ _ h => h) (Or.inl ⟨by rfl, ?_⟩) (by assumption) ?_
    rotate_left
    · intro w hSw; (try dsimp only at hSw); go_simp; (try (with_reducible rfl)); done
    simp only [Act.put, List.setIfInBounds_toArray]; dsimp only [List.set_cons_zero, List.set_cons_succ]
    refine wpAnyH_take (i := 12) (oi := ⟨_, _, _, _, _, _⟩) (v := ?_) rfl (by kernel_rfl) (by kernel_rfl) (by kernel_rfl) (fun _ _ _ h => h) (Or.inl ⟨by rfl, ?_⟩) (by assumption) ?_
    rotate_left
    · intro w hSw; (try dsimp only at hSw); go_simp; (try (with_reducible rfl)); done
    simp only [Act.put, List.setIfInBounds_toArray]; dsimp only [List.set_cons_zero, List.set_cons_succ]
    refine wpAnyH_take (i := 13) (oi := ⟨_, _, _, _, _, _⟩) (v := ?_) rfl (by kernel_rfl) (by kernel_rfl) (by kernel_rfl) (fun _ _ _ h => h) (Or.inl ⟨by rfl, ?_⟩) (by assumption) ?_
    rotate_left
    · intro w hSw; (try dsimp only at hSw); go_simp; (try (with_reducible rfl)); done
    simp only [Act.put, List.setIfInBounds_toArray]; dsimp only [List.set_cons_zero, List.set_cons_succ]
    refine wpAnyH_ready (rs := [14]) (by kernel_rfl) (by simp) ?_
    refine AllReadyH.cons (o := ⟨_, _, _, _, _, _⟩) rfl (fun K hK => ?_) AllReadyH.nil
    go_simp
    ((with_reducible refine (H7.out _).mono ?_); rintro e w9 ⟨rfl, f5⟩)
    refine hK.out _ _ ?_ (fun hHeld => ?_)
    · ((try dsimp only) <;> (first | exact ⟨⟨r0, r1, r2, rp1, rp2⟩, F.drew⟩ | exact hHeld | exact ⟨⟨keep_fr f5 hHeld.1.1, keep_fr f5 hHeld.1.2.1, keep_fr f5 hHeld.1.2.2.1, keep_fr f5 hHeld.1.2.2.2.1, keep_fr f5 hHeld.1.2.2.2.2⟩, hHeld.2.trans' f5⟩))
    clear hK K
    try (simp only [Act.put, List.setIfInBounds_toArray]; dsimp only [List.set_cons_zero, List.set_cons_succ])
    refine wpAnyH_take (i := 15) (oi := ⟨_, _, _, _, _, _⟩) (v := ?_) rfl (by kernel_rfl) (by kernel_rfl) (by kernel_rfl) (fun _ _ _ h => h) (Or.inl ⟨by rfl, ?_⟩) (by assumption) ?_
    rotate_left
    · intro w hSw; (try dsimp only at hSw); go_simp; (try (with_reducible rfl)); done
    simp only [Act.put, List.setIfInBounds_toArray]; dsimp only [List.set_cons_zero, List.set_cons_succ]
    refine wpAnyH_take (i := 16) (oi := ⟨_, _, _, _, _, _⟩) (v := ?_) rfl (by kernel_rfl) (by kernel_rfl) (by kernel_rfl) (fun _ _ _ h => h) (Or.inl ⟨by rfl, ?_⟩) (by assumption) ?_
    rotate_left
    · intro w hSw; (try dsimp only at hSw); go_simp; (try (with_reducible rfl)); done
    simp only [Act.put, List.setIfInBounds_toArray]; dsimp only [List.set_cons_zero, List.set_cons_succ]
    refine wpAnyH_take (i := 17) (oi := ⟨_, _, _, _, _, _⟩) (v := ?_) rfl (by kernel_rfl) (by kernel_rfl) (by kernel_rfl) (fun _ _ _ h => h) (Or.inl ⟨by rfl, ?_⟩) (by assumption) ?_
    rotate_left
    · intro w hSw; (try dsimp only at hSw); go_simp; (try (with_reducible rfl)); done
    simp only [Act.put, List.setIfInBounds_toArray]; dsimp only [List.set_cons_zero, List.set_cons_succ]
    refine wpAnyH_done (by kernel_rfl) ?_ _
    refine NoPanic.normal ?_
    all_goals
      clear r0 r1 r2 rp1 rp2 F
      obtain ⟨⟨r0, _, r2, _, _⟩, F⟩ := hHeld
      clear H4 H5 H6 H7 HS
      go_upto_region 8 with fail
      obtain ⟨W10, hW10⟩ : ∃ W, W = w9.alloc (.cells #[] 22) := ⟨_, rfl⟩
      refine wp_of_world W10 hW10 ?_
      have n0 : Us W10 (some ⟨w9.heap.size, 0, none⟩) 0 [] := by rw [hW10]; exact Us.of_list _ [] _ (by simp)
      have f : Fr F0 w9 W10 := by rw [hW10]; exact (Fr.refl _ _).alloc _
      replace F := F.trans' f
      replace r0 := keep_fr f r0
      replace r2 := keep_fr f r2
      clear hW10 f
      go_loopw [9, 10] (fun ov iv wr => ∃ i : Nat, i ≤ 32 ∧ iv = .int .i64 ((i : Int) - 1) ∧ (∃ a' c', ov = .slice a' (lg (h / 2 ^ (8 * i))) c' ∧ Ns wr a' c' (h / 2 ^ (8 * i))) ∧ (wr.heap[g0]? = some (.cells (rowN .u64 64 4 t) 24 (0, 0)) ∧ wr.heap[g2]? = some (.cells (rowN .u8 8 32 h) 26 (0, 0))) ∧ Fr F0 w wr) (fun _ iv _ => (intOf iv + 1).toNat)
      case atStart => exact ⟨32, by omega, rfl, ⟨_, _, by rw [H32.out]; rfl, by rw [H32.out]; exact n0⟩, ⟨r0, r2⟩, F⟩
      case round =>
        clear n0 r0 r2 F
        obtain ⟨i, hi, rfl, ⟨a1, c1, rfl, n1⟩, ⟨r0, r2⟩, hf⟩ := hrel
        cases i with
        | zero =>
          rw [Nat.mul_zero, Nat.pow_zero, Nat.div_one] at n1 ⊢
          clear HMu HAd HLH H32
          go_upto_region 11 with fail
          refine wp_region_noPanic ?_
          refine wp_region_held_drew (S := (fun w' => (w'.heap[g0]? = some (.cells (rowN .u64 64 4 t) 24 (0, 0)) ∧ w'.heap[g2]? = some (.cells (rowN .u8 8 32 h) 26 (0, 0))) ∧ Fr F0 wr w')) (by kernel_rfl) ?_ (fun hHeld => ?_)
          · ((try dsimp only) <;> (first | exact ⟨⟨r0, r2⟩, (Fr.refl F0 wr).drew⟩ | exact hHeld | exact ⟨⟨keep_fr f5 hHeld.1.1, keep_fr f5 hHeld.1.2⟩, hHeld.2.trans' f5⟩))
          refine wpAnyH_take (i := 0) (oi := ⟨_, _, _, _, _, _⟩) (v := ?_) rfl (by kernel_rfl) (by kernel_rfl) (by kernel_rfl) (fun _ _ _ h => h) (Or.inl ⟨by rfl, ?_⟩) (by assumption) ?_
          rotate_left
          · intro w hSw; (try dsimp only at hSw); go_simp; (try (with_reducible rfl)); done
          simp only [Act.put, List.setIfInBounds_toArray]; dsimp only [List.set_cons_zero, List.set_cons_succ]
          refine wpAnyH_take (i := 1) (oi := ⟨_, _, _, _, _, _⟩) (v := ?_) rfl (by kernel_rfl) (by kernel_rfl) (by kernel_rfl) (fun _ _ _ h => h) (Or.inl ⟨by rfl, ?_⟩) (by assumption) ?_
          rotate_left
          · intro w hSw; (try dsimp only at hSw); go_simp; (try (with_reducible rfl)); done
          simp only [Act.put, List.setIfInBounds_toArray]; dsimp only [List.set_cons_zero, List.set_cons_succ]
          refine wpAnyH_take (i := 3) (oi := ⟨_, _, _, _, _, _⟩) (v := ?_) rfl (by kernel_rfl) (by kernel_rfl) (by kernel_rfl) (fun _ _ _ h => h) (Or.inl ⟨by rfl, ?_⟩) (by assumption) ?_
          rotate_left
          · intro w hSw; (try dsimp only at hSw); go_simp; (try (with_reducible rfl)); done
          simp only [Act.put, List.setIfInBounds_toArray]; dsimp only [List.set_cons_zero, List.set_cons_succ]
          refine wpAnyH_take (i := 4) (oi := ⟨_, _, _, _, _, _⟩) (v := ?_) rfl (by kernel_rfl) (by kernel_rfl) (by kernel_rfl) (fun _ _ _ h => h) (Or.inl ⟨by rfl, ?_⟩) (by assumption) ?_
          rotate_left
          · intro w hSw; (try dsimp only at hSw); go_simp; (try (with_reducible rfl)); done
          simp only [Act.put, List.setIfInBounds_toArray]; dsimp only [List.set_cons_zero, List.set_cons_succ]
          refine wpAnyH_ready (rs := [2]) (by kernel_rfl) (by simp) ?_
          refine AllReadyH.cons (o := ⟨_, _, _, _, _, _⟩) rfl (fun K hK => ?_) AllReadyH.nil
          go_simp
          ((with_reducible refine (H8.out _).mono ?_); rintro e w11 ⟨rfl, f5⟩)
          refine hK.out _ _ ?_ (fun hHeld => ?_)
          · ((try dsimp only) <;> (first | exact ⟨⟨r0, r2⟩, (Fr.refl F0 wr).drew⟩ | exact hHeld | exact ⟨⟨keep_fr f5 hHeld.1.1, keep_fr f5 hHeld.1.2⟩, hHeld.2.trans' f5⟩))
          clear hK K
          try (simp only [Act.put, List.setIfInBounds_toArray]; dsimp only [List.set_cons_zero, List.set_cons_succ])
          refine wpAnyH_ready (rs := [5]) (by kernel_rfl) (by simp) ?_
          refine AllReadyH.cons (o := ⟨_, _, _, _, _, _⟩) rfl (fun K hK => ?_) AllReadyH.nil
          go_simp
          ((with_reducible refine (H3.out _).mono ?_); rintro e w12 ⟨p7, k7, rfl, n7, f5⟩)
          refine hK.out _ _ ?_ (fun hHeld => ?_)
          · ((try dsimp only) <;> (first | exact ⟨⟨r0, r2⟩, (Fr.refl F0 wr).drew⟩ | exact hHeld | exact ⟨⟨keep_fr f5 hHeld.1.1, keep_fr f5 hHeld.1.2⟩, hHeld.2.trans' f5⟩))
          clear hK K
          try (simp only [Act.put, List.setIfInBounds_toArray]; dsimp only [List.set_cons_zero, List.set_cons_succ])
          refine wpAnyH_ready (rs := [6]) (by kernel_rfl) (by simp) ?_
          refine AllReadyH.cons (o := ⟨_, _, _, _, _, _⟩) rfl (fun K hK => ?_) AllReadyH.nil
          go_simp
          ((with_reducible refine (HCm.out _ _ _ _ _ (Us.fr n1 hHeld.2) n7).mono ?_); rintro e w13 ⟨rfl, hw⟩; replace hw := hw.symm; subst hw)
          refine hK.out _ _ ?_ (fun hHeld => ?_)
          · ((try dsimp only) <;> (first | exact ⟨⟨r0, r2⟩, (Fr.refl F0 wr).drew⟩ | exact hHeld | exact ⟨⟨keep_fr f5 hHeld.1.1, keep_fr f5 hHeld.1.2⟩, hHeld.2.trans' f5⟩))
          clear hK K
          try (simp only [Act.put, List.setIfInBounds_toArray]; dsimp only [List.set_cons_zero, List.set_cons_succ])
          refine wpAnyH_take (i := 7) (oi := ⟨_, _, _, _, _, _⟩) (v := ?_) rfl (by kernel_rfl) (by kernel_rfl) (by kernel_rfl) (fun _ _ _ h => h) (Or.inl ⟨by rfl, ?_⟩) (by assumption) ?_
          rotate_left
          · intro w hSw; (try dsimp only at hSw); go_simp; (try (with_reducible rfl)); done
          simp only [Act.put, List.setIfInBounds_toArray]; dsimp only [List.set_cons_zero, List.set_cons_succ]
          refine wpAnyH_take (i := 8) (oi := ⟨_, _, _, _, _, _⟩) (v := ?_) rfl (by kernel_rfl) (by kernel_rfl) (by kernel_rfl) (fun _ _ _ h => h) (Or.inl ⟨by rfl, ?_⟩) (by assumption) ?_
          rotate_left
          · intro w hSw; (try dsimp only at hSw); go_simp; (try (with_reducible rfl)); done
          simp only [Act.put, List.setIfInBounds_toArray]; dsimp only [List.set_cons_zero, List.set_cons_succ]
          refine wpAnyH_take (i := 9) (oi := ⟨_, _, _, _, _, _⟩) (v := ?_) rfl (by kernel_rfl) (by kernel_rfl) (by kernel_rfl) (fun _ _ _ h => h) (Or.inl ⟨by rfl, ?_⟩) (by assumption) ?_
          rotate_left
          · intro w hSw; (try dsimp only at hSw); go_simp; (try (with_reducible rfl)); done
          simp only [Act.put, List.setIfInBounds_toArray]; dsimp only [List.set_cons_zero, List.set_cons_succ]
          refine wpAnyH_done (by kernel_rfl) ?_ _
          refine NoPanic.normal ?_
          all_goals
            rcases HZ.out with ⟨rfl, hz⟩ | ⟨rfl, hz⟩
            · go_wp2
              go_ret
              exact ⟨by first | rfl | (simp; done) | (simp; omega), hf.trans' hHeld.2⟩
            · go_wp2
              go_ret
              exact ⟨by first | rfl | (simp; done) | (simp; omega), hf.trans' hHeld.2⟩
        | succ j =>
          have hst := byte_step h j
          have hd8 := dgt_lt 8 h j
          have hl1 := HLH.out (j + 1)
          have hl2 := HLH.out j
          have hbn := rowN_nil4 0
          have hsd := set_first (dgt 8 h j) (by omega)
          have m1 : IntKind.u64.wrap ((dgt 8 h j : Nat) : Int) = ((dgt 8 h j : Nat) : Int) := IntWalk.u64_in _ (by omega)
          have HMj := Lib.hid (HMu.out (h / 2 ^ (8 * (j + 1))) (by omega))
          have HOd := Lib.hid (r3Of_any (dgt 8 h j) (word_w (by omega)))
          have HAj := Lib.hid (HAd.out (h / 2 ^ (8 * (j + 1)) * 256) (dgt 8 h j) (lg_w10 (by
            have h1 : h / 2 ^ (8 * (j + 1)) * 256 ≤ h / 2 ^ (8 * j) := by omega
            exact Nat.lt_of_le_of_lt h1 ((lg_16 _).1 (lg_word (Nat.lt_of_le_of_lt (Nat.div_le_self _ _) HHW.out))))) (lg_w10 (word_w (by omega))))
          rw [hst] at HAj
          have l3 : (0 : Int) ≤ (j : Int) := by omega
          have l4 : (j : Int) < 32 := by omega
          have l5 : j < 32 := by omega
          generalize hv : h / 2 ^ (8 * j) = v at *
          have HV := Lib.hid hv
          generalize h / 2 ^ (8 * (j + 1)) = y at *
          rw [show ((j + 1 : Nat) : Int) - 1 = (j : Int) by omega]
          clear hst hd8 hl1 hl2 hv hi HMu HAd HLH
          go_upto_region 10 with fail
          refine wp_region_noPanic ?_
          refine wp_region_held_drew (S := (fun w' => (w'.heap[g0]? = some (.cells (rowN .u64 64 4 t) 24 (0, 0)) ∧ w'.heap[g2]? = some (.cells (rowN .u8 8 32 h) 26 (0, 0))) ∧ Fr F0 wr w')) (by kernel_rfl) ?_ (fun hHeld => ?_)
          · ((try dsimp only) <;> (first | exact ⟨⟨r0, r2⟩, (Fr.refl F0 wr).drew⟩ | exact ⟨⟨keep_fr f5 hHeld.1.1, keep_fr f5 hHeld.1.2⟩, hHeld.2.trans' f5⟩ | exact ⟨⟨keep_alloc hHeld.1.1, keep_alloc hHeld.1.2⟩, hHeld.2.alloc _⟩))
          refine wpAnyH_take (i := 0) (oi := ⟨_, _, _, _, _, _⟩) (v := ?_) rfl (by kernel_rfl) (by kernel_rfl) (by kernel_rfl) (fun _ _ _ h => h) (Or.inl ⟨by rfl, ?_⟩) (by assumption) ?_
          rotate_left
          · intro w hSw; (try dsimp only at hSw); go_simp; (try (with_reducible rfl)); done
          simp only [Act.put, List.setIfInBounds_toArray]; dsimp only [List.set_cons_zero, List.set_cons_succ]
          refine wpAnyH_take (i := 3) (oi := ⟨_, _, _, _, _, _⟩) (v := ?_) rfl (by kernel_rfl) (by kernel_rfl) (by kernel_rfl) (fun _ _ _ h => h) (Or.inl ⟨by rfl, ?_⟩) (by assumption) ?_
          rotate_left
          · intro w hSw; (try dsimp only at hSw); go_simp; (try (with_reducible rfl)); done
          simp only [Act.put, List.setIfInBounds_toArray]; dsimp only [List.set_cons_zero, List.set_cons_succ]
          refine wpAnyH_take (i := 4) (oi := ⟨_, _, _, _, _, _⟩) (v := ?_) rfl (by kernel_rfl) (by kernel_rfl) (by kernel_rfl) (fun _ _ _ h => h) (Or.inl ⟨by rfl, ?_⟩) (by assumption) ?_
          rotate_left
          · intro w hSw; (try dsimp only at hSw); go_simp; (try (with_reducible rfl)); done
          simp only [Act.put, List.setIfInBounds_toArray]; dsimp only [List.set_cons_zero, List.set_cons_succ]
          refine wpAnyH_take (i := 5) (oi := ⟨_, _, _, _, _, _⟩) (v := ?_) rfl (by kernel_rfl) (by kernel_rfl) (by kernel_rfl) (fun _ _ _ h => h) (Or.inl ⟨by rfl, ?_⟩) (by assumption) ?_
          rotate_left
          · intro w hSw; (try dsimp only at hSw); go_simp; (try (with_reducible rfl)); done
          simp only [Act.put, List.setIfInBounds_toArray]; dsimp only [List.set_cons_zero, List.set_cons_succ]
          refine wpAnyH_take (i := 6) (oi := ⟨_, _, _, _, _, _⟩) (v := ?_) rfl (by kernel_rfl) (by kernel_rfl) (by kernel_rfl) (fun _ _ _ h => h) (Or.inl ⟨by rfl, ?_⟩) (by assumption) ?_
          rotate_left
          · intro w hSw; (try dsimp only at hSw); go_simp; (try (with_reducible rfl)); done
          simp only [Act.put, List.setIfInBounds_toArray]; dsimp only [List.set_cons_zero, List.set_cons_succ]
          refine wpAnyH_take (i := 7) (oi := ⟨_, _, _, _, _, _⟩) (v := ?_) rfl (by kernel_rfl) (by kernel_rfl) (by kernel_rfl) (fun _ _ _ h => h) (Or.inl ⟨by rfl, ?_⟩) (by assumption) ?_
          rotate_left
          · intro w hSw; (try dsimp only at hSw); go_simp; (try (with_reducible rfl)); done
          simp only [Act.put, List.setIfInBounds_toArray]; dsimp only [List.set_cons_zero, List.set_cons_succ]
          refine wpAnyH_ready (rs := [1]) (by kernel_rfl) (by simp) ?_
          refine AllReadyH.cons (o := ⟨_, _, _, _, _, _⟩) rfl (fun K hK => ?_) AllReadyH.nil
          go_simp
          refine hK.out _ _ ?_ (fun hHeld => ?_)
          · ((try dsimp only) <;> (first | exact ⟨⟨r0, r2⟩, (Fr.refl F0 wr).drew⟩ | exact ⟨⟨keep_fr f5 hHeld.1.1, keep_fr f5 hHeld.1.2⟩, hHeld.2.trans' f5⟩ | exact ⟨⟨keep_alloc hHeld.1.1, keep_alloc hHeld.1.2⟩, hHeld.2.alloc _⟩))
          clear hK K
          try (simp only [Act.put, List.setIfInBounds_toArray]; dsimp only [List.set_cons_zero, List.set_cons_succ])
          refine wpAnyH_ready (rs := [2]) (by kernel_rfl) (by simp) ?_
          refine AllReadyH.cons (o := ⟨_, _, _, _, _, _⟩) rfl (fun K hK => ?_) AllReadyH.nil
          go_simp
          (refine (HMj.out _ _ _ _ _ (Us.fr n1 hHeld.2) (Us.fr (Us.of1 wr 256 22) (Fr.refl F0 _).drew)).mono ?_; rintro e w12 ⟨p7, k7, rfl, n7, f5⟩)
          refine hK.out _ _ ?_ (fun hHeld => ?_)
          · ((try dsimp only) <;> (first | exact ⟨⟨r0, r2⟩, (Fr.refl F0 wr).drew⟩ | exact ⟨⟨keep_fr f5 hHeld.1.1, keep_fr f5 hHeld.1.2⟩, hHeld.2.trans' f5⟩ | exact ⟨⟨keep_alloc hHeld.1.1, keep_alloc hHeld.1.2⟩, hHeld.2.alloc _⟩))
          clear hK K
          try (simp only [Act.put, List.setIfInBounds_toArray]; dsimp only [List.set_cons_zero, List.set_cons_succ])
          refine wpAnyH_ready (rs := [8]) (by kernel_rfl) (by simp) ?_
          refine AllReadyH.cons (o := ⟨_, _, _, _, _, _⟩) rfl (fun K hK => ?_) AllReadyH.nil
          go_simp
          ((with_reducible refine (HOd.out _).mono ?_); rintro e w13 ⟨p8, k8, rfl, n8, f5⟩; replace n7 := Us.fr n7 f5)
          refine hK.out _ _ ?_ (fun hHeld => ?_)
          · ((try dsimp only) <;> (first | exact ⟨⟨r0, r2⟩, (Fr.refl F0 wr).drew⟩ | exact ⟨⟨keep_fr f5 hHeld.1.1, keep_fr f5 hHeld.1.2⟩, hHeld.2.trans' f5⟩ | exact ⟨⟨keep_alloc hHeld.1.1, keep_alloc hHeld.1.2⟩, hHeld.2.alloc _⟩))
          clear hK K
          try (simp only [Act.put, List.setIfInBounds_toArray]; dsimp only [List.set_cons_zero, List.set_cons_succ])
          refine wpAnyH_ready (rs := [9]) (by kernel_rfl) (by simp) ?_
          refine AllReadyH.cons (o := ⟨_, _, _, _, _, _⟩) rfl (fun K hK => ?_) AllReadyH.nil
          go_simp
          ((with_reducible refine (HAj.out _ _ _ _ _ n7 n8).mono ?_); rintro e w14 ⟨p9, k9, rfl, n9, f5⟩)
          refine hK.out _ _ ?_ (fun hHeld => ?_)
          · ((try dsimp only) <;> (first | exact ⟨⟨r0, r2⟩, (Fr.refl F0 wr).drew⟩ | exact ⟨⟨keep_fr f5 hHeld.1.1, keep_fr f5 hHeld.1.2⟩, hHeld.2.trans' f5⟩ | exact ⟨⟨keep_alloc hHeld.1.1, keep_alloc hHeld.1.2⟩, hHeld.2.alloc _⟩))
          clear hK K
          try (simp only [Act.put, List.setIfInBounds_toArray]; dsimp only [List.set_cons_zero, List.set_cons_succ])
          refine wpAnyH_take (i := 10) (oi := ⟨_, _, _, _, _, _⟩) (v := ?_) rfl (by kernel_rfl) (by kernel_rfl) (by kernel_rfl) (fun _ _ _ h => h) (Or.inl ⟨by rfl, ?_⟩) (by assumption) ?_
          rotate_left
          · intro w hSw; (try dsimp only at hSw); go_simp; (try (with_reducible rfl)); done
          simp only [Act.put, List.setIfInBounds_toArray]; dsimp only [List.set_cons_zero, List.set_cons_succ]
          refine wpAnyH_done (by kernel_rfl) ?_ _
          refine NoPanic.normal ?_
          all_goals
            go_wp2
            go_roundw
            case rel => exact ⟨j, by omega, by go_num, ⟨p9, k9, by rw [HV.out], by rw [HV.out]; exact n9⟩, hHeld.1, hf.trans' hHeld.2⟩
            case measure => simp [intOf]
  · go_upto_region 4 with fail
    refine wp_region_noPanic ?_
    refine wp_region_held_drew (S := (fun w' => (w'.heap[g0]? = some (.cells (rowN .u64 64 4 t) 24 (0, 0)) ∧ w'.heap[g1]? = some (.cells (rowN .u64 64 4 u) 24 (0, 0)) ∧ w'.heap[g2]? = some (.cells (rowN .u8 8 32 h) 26 (0, 0)) ∧ w'.heap[p1]? = some (.cells (rowN .u64 64 4 q) 24 (0, 0)) ∧ w'.heap[p2]? = some (.cells (rowN .u64 64 4 r) 24 (0, 0))) ∧ Fr F0 w w')) (by kernel_rfl) ?_ (fun hHeld => ?_)
    · ((try dsimp only) <;> (first | exact ⟨⟨r0, r1, r2, rp1, rp2⟩, F.drew⟩ | exact hHeld | exact ⟨⟨keep_fr f5 hHeld.1.1, keep_fr f5 hHeld.1.2.1, keep_fr f5 hHeld.1.2.2.1, keep_fr f5 hHeld.1.2.2.2.1, keep_fr f5 hHeld.1.2.2.2.2⟩, hHeld.2.trans' f5⟩))
    refine wpAnyH_take (i := 0) (oi := ⟨_, _, _, _, _, _⟩) (v := ?_) rfl (by kernel_rfl) (by kernel_rfl) (by kernel_rfl) (fun _ _ _ h => h) (Or.inl ⟨by rfl, ?_⟩) (by assumption) ?_
    rotate_left
    · intro w hSw; (try dsimp only at hSw); go_simp; (try (with_reducible rfl)); done
    simp only [Act.put, List.setIfInBounds_toArray]; dsimp only [List.set_cons_zero, List.set_cons_succ]
    refine wpAnyH_take (i := 1) (oi := ⟨_, _, _, _, _, _⟩) (v := ?_) rfl (by kernel_rfl) (by kernel_rfl) (by kernel_rfl) (fun _ _ _ h => h) (Or.inl ⟨by rfl, ?_⟩) (by assumption) ?_
    rotate_left
    · intro w hSw; (try dsimp only at hSw); go_simp; (try (with_reducible rfl)); done
    simp only [Act.put, List.setIfInBounds_toArray]; dsimp only [List.set_cons_zero, List.set_cons_succ]
    refine wpAnyH_ready (rs := [2]) (by kernel_rfl) (by simp) ?_
    refine AllReadyH.cons (o := ⟨_, _, _, _, _, _⟩) rfl (fun K hK => ?_) AllReadyH.nil
    go_simp
    ((with_reducible refine (H3.out _).mono ?_); rintro e w5 ⟨p5, k5, rfl, n5, f5⟩)
    refine hK.out _ _ ?_ (fun hHeld => ?_)
    · ((try dsimp only) <;> (first | exact ⟨⟨r0, r1, r2, rp1, rp2⟩, F.drew⟩ | exact hHeld | exact ⟨⟨keep_fr f5 hHeld.1.1, keep_fr f5 hHeld.1.2.1, keep_fr f5 hHeld.1.2.2.1, keep_fr f5 hHeld.1.2.2.2.1, keep_fr f5 hHeld.1.2.2.2.2⟩, hHeld.2.trans' f5⟩))
    clear hK K
    try (simp only [Act.put, List.setIfInBounds_toArray]; dsimp only [List.set_cons_zero, List.set_cons_succ])
    refine wpAnyH_ready (rs := [3]) (by kernel_rfl) (by simp) ?_
    refine AllReadyH.cons (o := ⟨_, _, _, _, _, _⟩) rfl (fun K hK => ?_) AllReadyH.nil
    go_simp
    ((with_reducible refine (H4.out _ _ _ n5).mono ?_); rintro e w6 ⟨p6, k6, rfl, n6, f5⟩)
    refine hK.out _ _ ?_ (fun hHeld => ?_)
    · ((try dsimp only) <;> (first | exact ⟨⟨r0, r1, r2, rp1, rp2⟩, F.drew⟩ | exact hHeld | exact ⟨⟨keep_fr f5 hHeld.1.1, keep_fr f5 hHeld.1.2.1, keep_fr f5 hHeld.1.2.2.1, keep_fr f5 hHeld.1.2.2.2.1, keep_fr f5 hHeld.1.2.2.2.2⟩, hHeld.2.trans' f5⟩))
    clear hK K
    try (simp only [Act.put, List.setIfInBounds_toArray]; dsimp only [List.set_cons_zero, List.set_cons_succ])
    refine wpAnyH_ready (rs := [4]) (by kernel_rfl) (by simp) ?_
    refine AllReadyH.cons (o := ⟨_, _, _, _, _, _⟩) rfl (fun K hK => ?_) AllReadyH.nil
    go_simp
    ((with_reducible refine (H5.out _ _ _ n6).mono ?_); rintro e w7 ⟨rfl, f5⟩)
    refine hK.out _ _ ?_ (fun hHeld => ?_)
    · ((try dsimp only) <;> (first | exact ⟨⟨r0, r1, r2, rp1, rp2⟩, F.drew⟩ | exact hHeld | exact ⟨⟨keep_fr f5 hHeld.1.1, keep_fr f5 hHeld.1.2.1, keep_fr f5 hHeld.1.2.2.1, keep_fr f5 hHeld.1.2.2.2.1, keep_fr f5 hHeld.1.2.2.2.2⟩, hHeld.2.trans' f5⟩))
    clear hK K
    try (simp only [Act.put, List.setIfInBounds_toArray]; dsimp only [List.set_cons_zero, List.set_cons_succ])
    refine wpAnyH_take (i := 5) (oi := ⟨_, _, _, _, _, _⟩) (v := ?_) rfl (by kernel_rfl) (by kernel_rfl) (by kernel_rfl) (fun _ _ _ h => h) (Or.inl ⟨by rfl, ?_⟩) (by assumption) ?_
    rotate_left
    · intro w hSw; (try dsimp only at hSw); go_simp; (try (with_reducible rfl)); done
    simp only [Act.put, List.setIfInBounds_toArray]; dsimp only [List.set_cons_zero, List.set_cons_succ]
    refine wpAnyH_take (i := 6) (oi := ⟨_, _, _, _, _, _⟩) (v := ?_) rfl (by kernel_rfl) (by kernel_rfl) (by kernel_rfl) (fun _ _ _ h => h) (Or.inl ⟨by rfl, ?_⟩) (by assumption) ?_
    rotate_left
    · intro w hSw; (try dsimp only at hSw); go_simp; (try (with_reducible rfl)); done
    simp only [Act.put, List.setIfInBounds_toArray]; dsimp only [List.set_cons_zero, List.set_cons_succ]
    refine wpAnyH_take (i := 7) (oi := ⟨_, _, _, _, _, _⟩) (v := ?_) rfl (by kernel_rfl) (by kernel_rfl) (by kernel_rfl) (fun _ _ _ h => h) (Or.inl ⟨by rfl, ?_⟩) (by assumption) ?_
    rotate_left
    · intro w hSw; (try dsimp only at hSw); go_simp; (try (with_reducible rfl)); done
    simp only [Act.put, List.setIfInBounds_toArray]; dsimp only [List.set_cons_zero, List.set_cons_succ]
    refine wpAnyH_take (i := 8) (oi := ⟨_, _, _, _, _, _⟩) (v := ?_) rfl (by kernel_rfl) (by kernel_rfl) (by kernel_rfl) (fun _ _ _ h => h) (Or.inl ⟨by rfl, ?_⟩) (by assumption) ?_
    rotate_left
    · intro w hSw; (try dsimp only at hSw); go_simp; (try (with_reducible rfl)); done
    simp only [Act.put, List.setIfInBounds_toArray]; dsimp only [List.set_cons_zero, List.set_cons_succ]
    refine wpAnyH_ready (rs := [9]) (by kernel_rfl) (by simp) ?_
    refine AllReadyH.cons (o := ⟨_, _, _, _, _, _⟩) rfl (fun K hK => ?_) AllReadyH.nil
    go_simp
    ((with_reducible refine (H6.out _).mono ?_); rintro e w8 ⟨rfl, f5⟩)
    refine hK.out _ _ ?_ (fun hHeld => ?_)
    · ((try dsimp only) <;> (first | exact ⟨⟨r0, r1, r2, rp1, rp2⟩, F.drew⟩ | exact hHeld | exact ⟨⟨keep_fr f5 hHeld.1.1, keep_fr f5 hHeld.1.2.1, keep_fr f5 hHeld.1.2.2.1, keep_fr f5 hHeld.1.2.2.2.1, keep_fr f5 hHeld.1.2.2.2.2⟩, hHeld.2.trans' f5⟩))
    clear hK K
    try (simp only [Act.put, List.setIfInBounds_toArray]; dsimp only [List.set_cons_zero, List.set_cons_succ])
    refine wpAnyH_take (i := 10) (oi := ⟨_, _, _, _, _, _⟩) (v := ?_) rfl (by kernel_rfl) (by kernel_rfl) (by kernel_rfl) (fun _ _ _ h => h) (Or.inl ⟨by rfl, ?_⟩) (by assumption) ?_
    rotate_left
    · intro w hSw; (try dsimp only at hSw); go_simp; (try (with_reducible rfl)); done
    simp only [Act.put, List.setIfInBounds_toArray]; dsimp only [List.set_cons_zero, List.set_cons_succ]
    refine wpAnyH_take (i := 11) (oi := ⟨_, _, _, _, _, _⟩) (v := ?_) rfl (by kernel_rfl) (by kernel_rfl) (by kernel_rfl) (fun _ _ _ h => h) (Or.inl ⟨by rfl, ?_⟩) (by assumption) ?_
    rotate_left
    · intro w hSw; (try dsimp only at hSw); go_simp; (try (with_reducible rfl)); done
    simp only [Act.put, List.setIfInBounds_toArray]; dsimp only [List.set_cons_zero, List.set_cons_succ]
    refine wpAnyH_take (i := 12) (oi := ⟨_, _, _, _, _, _⟩) (v := undef) rfl (by kernel_rfl) (by kernel_rfl) (by kernel_rfl) (fun _ _ _ h => h) (Or.inr ⟨by rfl, rfl⟩) (by assumption) ?_
    try (simp only [Act.put, List.setIfInBounds_toArray]; dsimp only [List.set_cons_zero, List.set_cons_succ])
    refine wpAnyH_take (i := 13) (oi := ⟨_, _, _, _, _, _⟩) (v := undef) rfl (by kernel_rfl) (by kernel_rfl) (by kernel_rfl) (fun _ _ _ h => h) (Or.inr ⟨by rfl, rfl⟩) (by assumption) ?_
    try (simp only [Act.put, List.setIfInBounds_toArray]; dsimp only [List.set_cons_zero, List.set_cons_succ])
    refine wpAnyH_take (i := 14) (oi := ⟨_, _, _, _, _, _⟩) (v := undef) rfl (by kernel_rfl) (by kernel_rfl) (by kernel_rfl) (fun _ _ _ h => h) (Or.inr ⟨by rfl, rfl⟩) (by assumption) ?_
    try (simp only [Act.put, List.setIfInBounds_toArray]; dsimp only [List.set_cons_zero, List.set_cons_succ])
    refine wpAnyH_take (i := 15) (oi := ⟨_, _, _, _, _, _⟩) (v := undef) rfl (by kernel_rfl) (by kernel_rfl) (by kernel_rfl) (fun _ _ _ h => h) (Or.inr ⟨by rfl, rfl⟩) (by assumption) ?_
    try (simp only [Act.put, List.setIfInBounds_toArray]; dsimp only [List.set_cons_zero, List.set_cons_succ])
    refine wpAnyH_take (i := 16) (oi := ⟨_, _, _, _, _, _⟩) (v := ?_) rfl (by kernel_rfl) (by kernel_rfl) (by kernel_rfl) (fun _ _ _ h => h) (Or.inl ⟨by rfl, ?_⟩) (by assumption) ?_
    rotate_left
    · intro w hSw; (try dsimp only at hSw); go_simp; (try (with_reducible rfl)); done
    simp only [Act.put, List.setIfInBounds_toArray]; dsimp only [List.set_cons_zero, List.set_cons_succ]
    refine wpAnyH_take (i := 17) (oi := ⟨_, _, _, _, _, _⟩) (v := ?_) rfl (by kernel_rfl) (by kernel_rfl) (by kernel_rfl) (fun _ _ _ h => h) (Or.inl ⟨by rfl, ?_⟩) (by assumption) ?_
    rotate_left
    · intro w hSw; (try dsimp only at hSw); go_simp; (try (with_reducible rfl)); done
    simp only [Act.put, List.setIfInBounds_toArray]; dsimp only [List.set_cons_zero, List.set_cons_succ]
    refine wpAnyH_done (by kernel_rfl) ?_ _
    refine NoPanic.normal ?_
    all_goals
      clear r0 r1 r2 rp1 rp2 F
      obtain ⟨⟨r0, _, r2, _, _⟩, F⟩ := hHeld
      clear H4 H5 H6 H7 HS
      go_upto_region 8 with fail
      obtain ⟨W10, hW10⟩ : ∃ W, W = w8.alloc (.cells #[] 22) := ⟨_, rfl⟩
      refine wp_of_world W10 hW10 ?_
      have n0 : Us W10 (some ⟨w8.heap.size, 0, none⟩) 0 [] := by rw [hW10]; exact Us.of_list _ [] _ (by simp)
      have f : Fr F0 w8 W10 := by rw [hW10]; exact (Fr.refl _ _).alloc _
      replace F := F.trans' f
      replace r0 := keep_fr f r0
      replace r2 := keep_fr f r2
      clear hW10 f
      go_loopw [9, 10] (fun ov iv wr => ∃ i : Nat, i ≤ 32 ∧ iv = .int .i64 ((i : Int) - 1) ∧ (∃ a' c', ov = .slice a' (lg (h / 2 ^ (8 * i))) c' ∧ Ns wr a' c' (h / 2 ^ (8 * i))) ∧ (wr.heap[g0]? = some (.cells (rowN .u64 64 4 t) 24 (0, 0)) ∧ wr.heap[g2]? = some (.cells (rowN .u8 8 32 h) 26 (0, 0))) ∧ Fr F0 w wr) (fun _ iv _ => (intOf iv + 1).toNat)
      case atStart => exact ⟨32, by omega, rfl, ⟨_, _, by rw [H32.out]; rfl, by rw [H32.out]; exact n0⟩, ⟨r0, r2⟩, F⟩
      case round =>
        clear n0 r0 r2 F
        obtain ⟨i, hi, rfl, ⟨a1, c1, rfl, n1⟩, ⟨r0, r2⟩, hf⟩ := hrel
        cases i with
        | zero =>
          rw [Nat.mul_zero, Nat.pow_zero, Nat.div_one] at n1 ⊢
          clear HMu HAd HLH H32
          go_upto_region 11 with fail
          refine wp_region_noPanic ?_
          refine wp_region_held_drew (S := (fun w' => (w'.heap[g0]? = some (.cells (rowN .u64 64 4 t) 24 (0, 0)) ∧ w'.heap[g2]? = some (.cells (rowN .u8 8 32 h) 26 (0, 0))) ∧ Fr F0 wr w')) (by kernel_rfl) ?_ (fun hHeld => ?_)
          · ((try dsimp only) <;> (first | exact ⟨⟨r0, r2⟩, (Fr.refl F0 wr).drew⟩ | exact hHeld | exact ⟨⟨keep_fr f5 hHeld.1.1, keep_fr f5 hHeld.1.2⟩, hHeld.2.trans' f5⟩))
          refine wpAnyH_take (i := 0) (oi := ⟨_, _, _, _, _, _⟩) (v := ?_) rfl (by kernel_rfl) (by kernel_rfl) (by kernel_rfl) (fun _ _ _ h => h) (Or.inl ⟨by rfl, ?_⟩) (by assumption) ?_
          rotate_left
          · intro w hSw; (try dsimp only at hSw); go_simp; (try (with_reducible rfl)); done
          simp only [Act.put, List.setIfInBounds_toArray]; dsimp only [List.set_cons_zero, List.set_cons_succ]
          refine wpAnyH_take (i := 1) (oi := ⟨_, _, _, _, _, _⟩) (v := ?_) rfl (by kernel_rfl) (by kernel_rfl) (by kernel_rfl) (fun _ _ _ h => h) (Or.inl ⟨by rfl, ?_⟩) (by assumption) ?_
          rotate_left
          · intro w hSw; (try dsimp only at hSw); go_simp; (try (with_reducible rfl)); done
          simp only [Act.put, List.setIfInBounds_toArray]; dsimp only [List.set_cons_zero, List.set_cons_succ]
          refine wpAnyH_take (i := 3) (oi := ⟨_, _, _, _, _, _⟩) (v := ?_) rfl (by kernel_rfl) (by kernel_rfl) (by kernel_rfl) (fun _ _ _ h => h) (Or.inl ⟨by rfl, ?_⟩) (by assumption) ?_
          rotate_left
          · intro w hSw; (try dsimp only at hSw); go_simp; (try (with_reducible rfl)); done
          simp only [Act.put, List.setIfInBounds_toArray]; dsimp only [List.set_cons_zero, List.set_cons_succ]
          refine wpAnyH_take (i := 4) (oi := ⟨_, _, _, _, _, _⟩) (v := ?_) rfl (by kernel_rfl) (by kernel_rfl) (by kernel_rfl) (fun _ _ _ h => h) (Or.inl ⟨by rfl, ?_⟩) (by assumption) ?_
          rotate_left
          · intro w hSw; (try dsimp only at hSw); go_simp; (try (with_reducible rfl)); done
          simp only [Act.put, List.setIfInBounds_toArray]; dsimp only [List.set_cons_zero, List.set_cons_succ]
          refine wpAnyH_ready (rs := [2]) (by kernel_rfl) (by simp) ?_
          refine AllReadyH.cons (o := ⟨_, _, _, _, _, _⟩) rfl (fun K hK => ?_) AllReadyH.nil
          go_simp
          ((with_reducible refine (H8.out _).mono ?_); rintro e w11 ⟨rfl, f5⟩)
          refine hK.out _ _ ?_ (fun hHeld => ?_)
          · ((try dsimp only) <;> (first | exact ⟨⟨r0, r2⟩, (Fr.refl F0 wr).drew⟩ | exact hHeld | exact ⟨⟨keep_fr f5 hHeld.1.1, keep_fr f5 hHeld.1.2⟩, hHeld.2.trans' f5⟩))
          clear hK K
          try (simp only [Act.put, List.setIfInBounds_toArray]; dsimp only [List.set_cons_zero, List.set_cons_succ])
          refine wpAnyH_ready (rs := [5]) (by kernel_rfl) (by simp) ?_
          refine AllReadyH.cons (o := ⟨_, _, _, _, _, _⟩) rfl (fun K hK => ?_) AllReadyH.nil
          go_simp
          ((with_reducible refine (H3.out _).mono ?_); rintro e w12 ⟨p7, k7, rfl, n7, f5⟩)
          refine hK.out _ _ ?_ (fun hHeld => ?_)
          · ((try dsimp only) <;> (first | exact ⟨⟨r0, r2⟩, (Fr.refl F0 wr).drew⟩ | exact hHeld | exact ⟨⟨keep_fr f5 hHeld.1.1, keep_fr f5 hHeld.1.2⟩, hHeld.2.trans' f5⟩))
          clear hK K
          try (simp only [Act.put, List.setIfInBounds_toArray]; dsimp only [List.set_cons_zero, List.set_cons_succ])
          refine wpAnyH_ready (rs := [6]) (by kernel_rfl) (by simp) ?_
          refine AllReadyH.cons (o := ⟨_, _, _, _, _, _⟩) rfl (fun K hK => ?_) AllReadyH.nil
          go_simp
          ((with_reducible refine (HCm.out _ _ _ _ _ (Us.fr n1 hHeld.2) n7).mono ?_); rintro e w13 ⟨rfl, hw⟩; replace hw := hw.symm; subst hw)
          refine hK.out _ _ ?_ (fun hHeld => ?_)
          · ((try dsimp only) <;> (first | exact ⟨⟨r0, r2⟩, (Fr.refl F0 wr).drew⟩ | exact hHeld | exact ⟨⟨keep_fr f5 hHeld.1.1, keep_fr f5 hHeld.1.2⟩, hHeld.2.trans' f5⟩))
          clear hK K
          try (simp only [Act.put, List.setIfInBounds_toArray]; dsimp only [List.set_cons_zero, List.set_cons_succ])
          refine wpAnyH_take (i := 7) (oi := ⟨_, _, _, _, _, _⟩) (v := ?_) rfl (by kernel_rfl) (by kernel_rfl) (by kernel_rfl) (fun _ _ _ h => h) (Or.inl ⟨by rfl, ?_⟩) (by assumption) ?_
          rotate_left
          · intro w hSw; (try dsimp only at hSw); go_simp; (try (with_reducible rfl)); done
          simp only [Act.put, List.setIfInBounds_toArray]; dsimp only [List.set_cons_zero, List.set_cons_succ]
          refine wpAnyH_take (i := 8) (oi := ⟨_, _, _, _, _, _⟩) (v := ?_) rfl (by kernel_rfl) (by kernel_rfl) (by kernel_rfl) (fun _ _ _ h => h) (Or.inl ⟨by rfl, ?_⟩) (by assumption) ?_
          rotate_left
          · intro w hSw; (try dsimp only at hSw); go_simp; (try (with_reducible rfl)); done
          simp only [Act.put, List.setIfInBounds_toArray]; dsimp only [List.set_cons_zero, List.set_cons_succ]
          refine wpAnyH_take (i := 9) (oi := ⟨_, _, _, _, _, _⟩) (v := ?_) rfl (by kernel_rfl) (by kernel_rfl) (by kernel_rfl) (fun _ _ _ h => h) (Or.inl ⟨by rfl, ?_⟩) (by assumption) ?_
          rotate_left
          · intro w hSw; (try dsimp only at hSw); go_simp; (try (with_reducible rfl)); done
          simp only [Act.put, List.setIfInBounds_toArray]; dsimp only [List.set_cons_zero, List.set_cons_succ]
          refine wpAnyH_done (by kernel_rfl) ?_ _
          refine NoPanic.normal ?_
          all_goals
            rcases HZ.out with ⟨rfl, hz⟩ | ⟨rfl, hz⟩
            · go_wp2
              go_ret
              exact ⟨by first | rfl | (simp; done) | (simp; omega), hf.trans' hHeld.2⟩
            · go_wp2
              go_ret
              exact ⟨by first | rfl | (simp; done) | (simp; omega), hf.trans' hHeld.2⟩
        | succ j =>
          have hst := byte_step h j
          have hd8 := dgt_lt 8 h j
          have hl1 := HLH.out (j + 1)
          have hl2 := HLH.out j
          have hbn := rowN_nil4 0
          have hsd := set_first (dgt 8 h j) (by omega)
          have m1 : IntKind.u64.wrap ((dgt 8 h j : Nat) : Int) = ((dgt 8 h j : Nat) : Int) := IntWalk.u64_in _ (by omega)
          have HMj := Lib.hid (HMu.out (h / 2 ^ (8 * (j + 1))) (by omega))
          have HOd := Lib.hid (r3Of_any (dgt 8 h j) (word_w (by omega)))
          have HAj := Lib.hid (HAd.out (h / 2 ^ (8 * (j + 1)) * 256) (dgt 8 h j) (lg_w10 (by
            have h1 : h / 2 ^ (8 * (j + 1)) * 256 ≤ h / 2 ^ (8 * j) := by omega
            exact Nat.lt_of_le_of_lt h1 ((lg_16 _).1 (lg_word (Nat.lt_of_le_of_lt (Nat.div_le_self _ _) HHW.out))))) (lg_w10 (word_w (by omega))))
          rw [hst] at HAj
          have l3 : (0 : Int) ≤ (j : Int) := by omega
          have l4 : (j : Int) < 32 := by omega
          have l5 : j < 32 := by omega
          generalize hv : h / 2 ^ (8 * j) = v at *
          have HV := Lib.hid hv
          generalize h / 2 ^ (8 * (j + 1)) = y at *
          rw [show ((j + 1 : Nat) : Int) - 1 = (j : Int) by omega]
          clear hst hd8 hl1 hl2 hv hi HMu HAd HLH
          go_upto_region 10 with fail
          refine wp_region_noPanic ?_
          refine wp_region_held_drew (S := (fun w' => (w'.heap[g0]? = some (.cells (rowN .u64 64 4 t) 24 (0, 0)) ∧ w'.heap[g2]? = some (.cells (rowN .u8 8 32 h) 26 (0, 0))) ∧ Fr F0 wr w')) (by kernel_rfl) ?_ (fun hHeld => ?_)
          · ((try dsimp only) <;> (first | exact ⟨⟨r0, r2⟩, (Fr.refl F0 wr).drew⟩ | exact ⟨⟨keep_fr f5 hHeld.1.1, keep_fr f5 hHeld.1.2⟩, hHeld.2.trans' f5⟩ | exact ⟨⟨keep_alloc hHeld.1.1, keep_alloc hHeld.1.2⟩, hHeld.2.alloc _⟩))
          refine wpAnyH_take (i := 0) (oi := ⟨_, _, _, _, _, _⟩) (v := ?_) rfl (by kernel_rfl) (by kernel_rfl) (by kernel_rfl) (fun _ _ _ h => h) (Or.inl ⟨by rfl, ?_⟩) (by assumption) ?_
          rotate_left
          · intro w hSw; (try dsimp only at hSw); go_simp; (try (with_reducible rfl)); done
          simp only [Act.put, List.setIfInBounds_toArray]; dsimp only [List.set_cons_zero, List.set_cons_succ]
          refine wpAnyH_take (i := 3) (oi := ⟨_, _, _, _, _, _⟩) (v := ?_) rfl (by kernel_rfl) (by kernel_rfl) (by kernel_rfl) (fun _ _ _ h => h) (Or.inl ⟨by rfl, ?_⟩) (by assumption) ?_
          rotate_left
          · intro w hSw; (try dsimp only at hSw); go_simp; (try (with_reducible rfl)); done
          simp only [Act.put, List.setIfInBounds_toArray]; dsimp only [List.set_cons_zero, List.set_cons_succ]
          refine wpAnyH_take (i := 4) (oi := ⟨_, _, _, _, _, _⟩) (v := ?_) rfl (by kernel_rfl) (by kernel_rfl) (by kernel_rfl) (fun _ _ _ h => h) (Or.inl ⟨by rfl, ?_⟩) (by assumption) ?_
          rotate_left
          · intro w hSw; (try dsimp only at hSw); go_simp; (try (with_reducible rfl)); done
          simp only [Act.put, List.setIfInBounds_toArray]; dsimp only [List.set_cons_zero, List.set_cons_succ]
          refine wpAnyH_take (i := 5) (oi := ⟨_, _, _, _, _, _⟩) (v := ?_) rfl (by kernel_rfl) (by kernel_rfl) (by kernel_rfl) (fun _ _ _ h => h) (Or.inl ⟨by rfl, ?_⟩) (by assumption) ?_
          rotate_left
          · intro w hSw; (try dsimp only at hSw); go_simp; (try (with_reducible rfl)); done
          simp only [Act.put, List.setIfInBounds_toArray]; dsimp only [List.set_cons_zero, List.set_cons_succ]
          refine wpAnyH_take (i := 6) (oi := ⟨_, _, _, _, _, _⟩) (v := ?_) rfl (by kernel_rfl) (by kernel_rfl) (by kernel_rfl) (fun _ _ _ h => h) (Or.inl ⟨by rfl, ?_⟩) (by assumption) ?_
          rotate_left
          · intro w hSw; (try dsimp only at hSw); go_simp; (try (with_reducible rfl)); done
          simp only [Act.put, List.setIfInBounds_toArray]; dsimp only [List.set_cons_zero, List.set_cons_succ]
          refine wpAnyH_take (i := 7) (oi := ⟨_, _, _, _, _, _⟩) (v := ?_) rfl (by kernel_rfl) (by kernel_rfl) (by kernel_rfl) (fun _ _ _ h => h) (Or.inl ⟨by rfl, ?_⟩) (by assumption) ?_
          rotate_left
          · intro w hSw; (try dsimp only at hSw); go_simp; (try (with_reducible rfl)); done
          simp only [Act.put, List.setIfInBounds_toArray]; dsimp only [List.set_cons_zero, List.set_cons_succ]
          refine wpAnyH_ready (rs := [1]) (by kernel_rfl) (by simp) ?_
          refine AllReadyH.cons (o := ⟨_, _, _, _, _, _⟩) rfl (fun K hK => ?_) AllReadyH.nil
          go_simp
          refine hK.out _ _ ?_ (fun hHeld => ?_)
          · ((try dsimp only) <;> (first | exact ⟨⟨r0, r2⟩, (Fr.refl F0 wr).drew⟩ | exact ⟨⟨keep_fr f5 hHeld.1.1, keep_fr f5 hHeld.1.2⟩, hHeld.2.trans' f5⟩ | exact ⟨⟨keep_alloc hHeld.1.1, keep_alloc hHeld.1.2⟩, hHeld.2.alloc _⟩))
          clear hK K
          try (simp only [Act.put, List.setIfInBounds_toArray]; dsimp only [List.set_cons_zero, List.set_cons_succ])
          refine wpAnyH_ready (rs := [2]) (by kernel_rfl) (by simp) ?_
          refine AllReadyH.cons (o := ⟨_, _, _, _, _, _⟩) rfl (fun K hK => ?_) AllReadyH.nil
          go_simp
          (refine (HMj.out _ _ _ _ _ (Us.fr n1 hHeld.2) (Us.fr (Us.of1 wr 256 22) (Fr.refl F0 _).drew)).mono ?_; rintro e w12 ⟨p7, k7, rfl, n7, f5⟩)
          refine hK.out _ _ ?_ (fun hHeld => ?_)
          · ((try dsimp only) <;> (first | exact ⟨⟨r0, r2⟩, (Fr.refl F0 wr).drew⟩ | exact ⟨⟨keep_fr f5 hHeld.1.1, keep_fr f5 hHeld.1.2⟩, hHeld.2.trans' f5⟩ | exact ⟨⟨keep_alloc hHeld.1.1, keep_alloc hHeld.1.2⟩, hHeld.2.alloc _⟩))
          clear hK K
          try (simp only [Act.put, List.setIfInBounds_toArray]; dsimp only [List.set_cons_zero, List.set_cons_succ])
          refine wpAnyH_ready (rs := [8]) (by kernel_rfl) (by simp) ?_
          refine AllReadyH.cons (o := ⟨_, _, _, _, _, _⟩) rfl (fun K hK => ?_) AllReadyH.nil
          go_simp
          ((with_reducible refine (HOd.out _).mono ?_); rintro e w13 ⟨p8, k8, rfl, n8, f5⟩; replace n7 := Us.fr n7 f5)
          refine hK.out _ _ ?_ (fun hHeld => ?_)
          · ((try dsimp only) <;> (first | exact ⟨⟨r0, r2⟩, (Fr.refl F0 wr).drew⟩ | exact ⟨⟨keep_fr f5 hHeld.1.1, keep_fr f5 hHeld.1.2⟩, hHeld.2.trans' f5⟩ | exact ⟨⟨keep_alloc hHeld.1.1, keep_alloc hHeld.1.2⟩, hHeld.2.alloc _⟩))
          clear hK K
          try (simp only [Act.put, List.setIfInBounds_toArray]; dsimp only [List.set_cons_zero, List.set_cons_succ])
          refine wpAnyH_ready (rs := [9]) (by kernel_rfl) (by simp) ?_
          refine AllReadyH.cons (o := ⟨_, _, _, _, _, _⟩) rfl (fun K hK => ?_) AllReadyH.nil
          go_simp
          ((with_reducible refine (HAj.out _ _ _ _ _ n7 n8).mono ?_); rintro e w14 ⟨p9, k9, rfl, n9, f5⟩)
          refine hK.out _ _ ?_ (fun hHeld => ?_)
          · ((try dsimp only) <;> (first | exact ⟨⟨r0, r2⟩, (Fr.refl F0 wr).drew⟩ | exact ⟨⟨keep_fr f5 hHeld.1.1, keep_fr f5 hHeld.1.2⟩, hHeld.2.trans' f5⟩ | exact ⟨⟨keep_alloc hHeld.1.1, keep_alloc hHeld.1.2⟩, hHeld.2.alloc _⟩))
          clear hK K
          try (simp only [Act.put, List.setIfInBounds_toArray]; dsimp only [List.set_cons_zero, List.set_cons_succ])
          refine wpAnyH_take (i := 10) (oi := ⟨_, _, _, _, _, _⟩) (v := ?_) rfl (by kernel_rfl) (by kernel_rfl) (by kernel_rfl) (fun _ _ _ h => h) (Or.inl ⟨by rfl, ?_⟩) (by assumption) ?_
          rotate_left
          · intro w hSw; (try dsimp only at hSw); go_simp; (try (with_reducible rfl)); done
          simp only [Act.put, List.setIfInBounds_toArray]; dsimp only [List.set_cons_zero, List.set_cons_succ]
          refine wpAnyH_done (by kernel_rfl) ?_ _
          refine NoPanic.normal ?_
          all_goals
            go_wp2
            go_roundw
            case rel => exact ⟨j, by omega, by go_num, ⟨p9, k9, by rw [HV.out], by rw [HV.out]; exact n9⟩, hHeld.1, hf.trans' hHeld.2⟩
            case measure => simp [intOf]
end Go.Proofs.Ytgdnmmobnfjegaa
