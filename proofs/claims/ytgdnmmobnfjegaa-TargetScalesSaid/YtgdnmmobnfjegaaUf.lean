/- Layer 6 (target): times and Scale. -/
import Derived.Test.YtgdnmmobnfjegaaUc
import Derived.Test.YtgdnmmobnfjegaaPiece
import Derived.Test.YtgdnmmobnfjegaaDi
import Derived.Test.YtgdnmmobnfjegaaUe
import Derived.Test.YtgdnmmobnfjegaaUi
namespace Go.Proofs.Ytgdnmmobnfjegaa
set_option linter.unusedVariables false
set_option linter.unusedSimpArgs false
open Go.RowKit

set_option maxRecDepth 100000 in
set_option maxHeartbeats 16000000 in
theorem tm1 {s0 s1 s4 s5 s7 s8 s9 s10 s11 s12 s13 s14 s15 s16 s17 s18 s19 s20 s21 s22 s23 s24 s25 s26 s27 s28 s29 s30 s31 s32 s33 s34 s35 s36 s37 s38 s39 s40 s41 s42 s43 s44 s45 s46 s47 s48 s49 s50 s51 s52 s53 s54 s55 s56 s57 s58 s59 : Value} {K : Act → World → Prop} {Q : Exit → Act → World → Prop} (w w6 : World) (a x q r g0 g6 : Nat) (HO : RowKit.Hid (∀ w : World, Calls Try.prog 25 #[.int .u64 x] w fun e w' => e = .returned (.agg (rowN .u64 64 4 x)) ∧ Fr F0 w w')) (HD : RowKit.Hid (∀ w : World, Calls Try.prog 40 #[.agg (rowN .u64 64 4 a), .agg (rowN .u64 64 4 x)] w fun e w' => e = .returned (.tuple #[.agg (rowN .u64 64 4 q), .agg (rowN .u64 64 4 r), .int .i64 0]) ∧ Fr F0 w w')) (r0 : w6.heap[g0]? = some (.cells (rowN .u64 64 4 a) 24 (0, 0))) (r6 : w6.heap[g6]? = some (.cells (rowN .u64 64 4 0) 24 (0, 0))) (F : Fr F0 w w6)
    (hK : RowKit.Hid (∀ {u8 u9 u10 u20 u21 u22 u23 u24 u25 u26 u27 : Value} {w' : World}, ((∃ p1 p2 : Nat, u8 = .pointer (some ⟨p1, 0, none⟩) ∧ u9 = .pointer (some ⟨p2, 0, none⟩) ∧ w'.heap[p1]? = some (.cells (rowN .u64 64 4 q) 24 (0, 0)) ∧ w'.heap[p2]? = some (.cells (rowN .u64 64 4 r) 24 (0, 0))) ∧ (w'.heap[g0]? = some (.cells (rowN .u64 64 4 a) 24 (0, 0)) ∧ w'.heap[g6]? = some (.cells (rowN .u64 64 4 0) 24 (0, 0))) ∧ Fr F0 w w') → K ⟨#[s0, s1, .int .u64 x, .pointer (some ⟨g0, 0, none⟩), s4, s5, .pointer (some ⟨g6, 0, none⟩), s7, u8, u9, u10, s11, s12, s13, s14, s15, s16, s17, s18, s19, u20, u21, u22, u23, u24, u25, u26, u27, s28, s29, s30, s31, s32, s33, s34, s35, s36, s37, s38, s39, s40, s41, s42, s43, s44, s45, s46, s47, s48, s49, s50, s51, s52, s53, s54, s55, s56, s57, s58, s59], []⟩ w')) :
    Code.wp Try.prog ((Try.f44.body.bind (findRegion 1)).getD .skip) (Exit.then K Q) ⟨#[s0, s1, .int .u64 x, .pointer (some ⟨g0, 0, none⟩), s4, s5, .pointer (some ⟨g6, 0, none⟩), s7, s8, s9, s10, s11, s12, s13, s14, s15, s16, s17, s18, s19, s20, s21, s22, s23, s24, s25, s26, s27, s28, s29, s30, s31, s32, s33, s34, s35, s36, s37, s38, s39, s40, s41, s42, s43, s44, s45, s46, s47, s48, s49, s50, s51, s52, s53, s54, s55, s56, s57, s58, s59], []⟩ w6 := by
  conv => arg 2; whnf
  have HG0 := Lib.hid (And.intro (Array.getElem?_eq_some_iff.1 r0).1 (And.intro (Array.getElem?_eq_some_iff.1 r6).1 F.size))
  refine wp_region_noPanic ?_
  refine wp_region_held_drew (S := (fun w' => (w'.heap[g0]? = some (.cells (rowN .u64 64 4 a) 24 (0, 0)) ∧ w'.heap[g6]? = some (.cells (rowN .u64 64 4 0) 24 (0, 0))) ∧ Fr F0 w w')) (by kernel_rfl) ?_ (fun hHeld => ?_)
  · ((try dsimp only) <;> (first | exact ⟨⟨r0, r6⟩, F.drew⟩ | exact ⟨⟨keep_fr f5 hHeld.1.1, keep_fr f5 hHeld.1.2⟩, hHeld.2.trans' f5⟩ | exact ⟨⟨keep_alloc hHeld.1.1, keep_alloc hHeld.1.2⟩, hHeld.2.alloc _⟩ | exact ⟨⟨keep_row (by have := HG0.out; omega) hHeld.1.1, keep_row (by have := HG0.out; omega) hHeld.1.2⟩, hHeld.2.setRow (fun h => by have := HG0.out; omega) _⟩))
  refine wpAnyH_take (i := 0) (oi := ⟨_, _, _, _, _, _⟩) (v := ?_) rfl (by kernel_rfl) (by kernel_rfl) (by kernel_rfl) (fun _ _ _ h => h) (Or.inl ⟨by rfl, ?_⟩) (by assumption) ?_
  rotate_left
  · intro w hSw; (try dsimp only at hSw); go_simp; (try (with_reducible rfl)); done
  simp only [Act.put, List.setIfInBounds_toArray]; dsimp only [List.set_cons_zero, List.set_cons_succ]
  refine wpAnyH_take (i := 1) (oi := ⟨_, _, _, _, _, _⟩) (v := ?_) rfl (by kernel_rfl) (by kernel_rfl) (by kernel_rfl) (fun _ _ _ h => h) (Or.inl ⟨by rfl, ?_⟩) (by assumption) ?_
  rotate_left
  · intro w hSw; (try dsimp only at hSw); go_simp; (try (with_reducible rfl)); done
  simp only [Act.put, List.setIfInBounds_toArray]; dsimp only [List.set_cons_zero, List.set_cons_succ]
  refine wpAnyH_ready (rs := [2, 8, 9]) (by kernel_rfl) (by simp) ?_
  refine AllReadyH.cons (o := ⟨_, _, _, _, _, _⟩) rfl (fun K hK => ?_) (AllReadyH.cons (o := ⟨_, _, _, _, _, _⟩) rfl (fun K hK => ?_) (AllReadyH.cons (o := ⟨_, _, _, _, _, _⟩) rfl (fun K hK => ?_) AllReadyH.nil))
  go_simp
  (refine (HO.out _).mono ?_; rintro e w5 ⟨rfl, f5⟩; have z5 := f5.size; (try simp only [World.size_alloc, heap_drew'] at z5))
  refine hK.out _ _ ?_ (fun hHeld => ?_)
  · ((try dsimp only) <;> (first | exact ⟨⟨r0, r6⟩, F.drew⟩ | exact ⟨⟨keep_fr f5 hHeld.1.1, keep_fr f5 hHeld.1.2⟩, hHeld.2.trans' f5⟩ | exact ⟨⟨keep_alloc hHeld.1.1, keep_alloc hHeld.1.2⟩, hHeld.2.alloc _⟩ | exact ⟨⟨keep_row (by have := HG0.out; omega) hHeld.1.1, keep_row (by have := HG0.out; omega) hHeld.1.2⟩, hHeld.2.setRow (fun h => by have := HG0.out; omega) _⟩))
  clear hK K
  try (simp only [Act.put, List.setIfInBounds_toArray]; dsimp only [List.set_cons_zero, List.set_cons_succ])
  refine wpAnyH_ready (rs := [3, 8, 9]) (by kernel_rfl) (by simp) ?_
  refine AllReadyH.cons (o := ⟨_, _, _, _, _, _⟩) rfl (fun K hK => ?_) (AllReadyH.cons (o := ⟨_, _, _, _, _, _⟩) rfl (fun K hK => ?_) (AllReadyH.cons (o := ⟨_, _, _, _, _, _⟩) rfl (fun K hK => ?_) AllReadyH.nil))
  go_simp
  (refine (HD.out _).mono ?_; rintro e w5 ⟨rfl, f5⟩; have z5 := f5.size; (try simp only [World.size_alloc, heap_drew'] at z5))
  refine hK.out _ _ ?_ (fun hHeld => ?_)
  · ((try dsimp only) <;> (first | exact ⟨⟨r0, r6⟩, F.drew⟩ | exact ⟨⟨keep_fr f5 hHeld.1.1, keep_fr f5 hHeld.1.2⟩, hHeld.2.trans' f5⟩ | exact ⟨⟨keep_alloc hHeld.1.1, keep_alloc hHeld.1.2⟩, hHeld.2.alloc _⟩ | exact ⟨⟨keep_row (by have := HG0.out; omega) hHeld.1.1, keep_row (by have := HG0.out; omega) hHeld.1.2⟩, hHeld.2.setRow (fun h => by have := HG0.out; omega) _⟩))
  clear hK K
  try (simp only [Act.put, List.setIfInBounds_toArray]; dsimp only [List.set_cons_zero, List.set_cons_succ])
  refine wpAnyH_take (i := 4) (oi := ⟨_, _, _, _, _, _⟩) (v := ?_) rfl (by kernel_rfl) (by kernel_rfl) (by kernel_rfl) (fun _ _ _ h => h) (Or.inl ⟨by rfl, ?_⟩) (by assumption) ?_
  rotate_left
  · intro w hSw; (try dsimp only at hSw); go_simp; (try (with_reducible rfl)); done
  simp only [Act.put, List.setIfInBounds_toArray]; dsimp only [List.set_cons_zero, List.set_cons_succ]
  refine wpAnyH_take (i := 5) (oi := ⟨_, _, _, _, _, _⟩) (v := ?_) rfl (by kernel_rfl) (by kernel_rfl) (by kernel_rfl) (fun _ _ _ h => h) (Or.inl ⟨by rfl, ?_⟩) (by assumption) ?_
  rotate_left
  · intro w hSw; (try dsimp only at hSw); go_simp; (try (with_reducible rfl)); done
  simp only [Act.put, List.setIfInBounds_toArray]; dsimp only [List.set_cons_zero, List.set_cons_succ]
  refine wpAnyH_take (i := 6) (oi := ⟨_, _, _, _, _, _⟩) (v := ?_) rfl (by kernel_rfl) (by kernel_rfl) (by kernel_rfl) (fun _ _ _ h => h) (Or.inl ⟨by rfl, ?_⟩) (by assumption) ?_
  rotate_left
  · intro w hSw; (try dsimp only at hSw); go_simp; (try (with_reducible rfl)); done
  simp only [Act.put, List.setIfInBounds_toArray]; dsimp only [List.set_cons_zero, List.set_cons_succ]
  refine wpAnyH_take (i := 7) (oi := ⟨_, _, _, _, _, _⟩) (v := ?_) rfl (by kernel_rfl) (by kernel_rfl) (by kernel_rfl) (fun _ _ _ h => h) (Or.inl ⟨by rfl, ?_⟩) (by assumption) ?_
  rotate_left
  · intro w hSw; (try dsimp only at hSw); go_simp; (try (with_reducible rfl)); done
  simp only [Act.put, List.setIfInBounds_toArray]; dsimp only [List.set_cons_zero, List.set_cons_succ]
  refine wpAnyH_ready (rs := [8, 9]) (by kernel_rfl) (by simp) ?_
  refine AllReadyH.cons (o := ⟨_, _, _, _, _, _⟩) rfl (fun K hK => ?_) (AllReadyH.cons (o := ⟨_, _, _, _, _, _⟩) rfl (fun K hK => ?_) AllReadyH.nil)
  go_simp
  refine hK.out _ _ ?_ (fun hHeld => ?_)
  · ((try dsimp only) <;> (first | exact ⟨⟨r0, r6⟩, F.drew⟩ | exact ⟨⟨keep_fr f5 hHeld.1.1, keep_fr f5 hHeld.1.2⟩, hHeld.2.trans' f5⟩ | exact ⟨⟨keep_alloc hHeld.1.1, keep_alloc hHeld.1.2⟩, hHeld.2.alloc _⟩ | exact ⟨⟨keep_row (by have := HG0.out; omega) hHeld.1.1, keep_row (by have := HG0.out; omega) hHeld.1.2⟩, hHeld.2.setRow (fun h => by have := HG0.out; omega) _⟩))
  clear hK K
  try (simp only [Act.put, List.setIfInBounds_toArray]; dsimp only [List.set_cons_zero, List.set_cons_succ])
  refine wpAnyH_ready (rs := [9]) (by kernel_rfl) (by simp) ?_
  refine AllReadyH.cons (o := ⟨_, _, _, _, _, _⟩) rfl (fun K hK => ?_) AllReadyH.nil
  go_simp
  refine hK.out _ _ ?_ (fun hHeld => ?_)
  · ((try dsimp only) <;> (first | exact ⟨⟨r0, r6⟩, F.drew⟩ | exact ⟨⟨keep_fr f5 hHeld.1.1, keep_fr f5 hHeld.1.2⟩, hHeld.2.trans' f5⟩ | exact ⟨⟨keep_alloc hHeld.1.1, keep_alloc hHeld.1.2⟩, hHeld.2.alloc _⟩ | exact ⟨⟨keep_row (by have := HG0.out; omega) hHeld.1.1, keep_row (by have := HG0.out; omega) hHeld.1.2⟩, hHeld.2.setRow (fun h => by have := HG0.out; omega) _⟩))
  clear hK K
  try (simp only [Act.put, List.setIfInBounds_toArray]; dsimp only [List.set_cons_zero, List.set_cons_succ])
  refine wpAnyH_ready (rs := [10]) (by kernel_rfl) (by simp) ?_
  refine AllReadyH.cons (o := ⟨_, _, _, _, _, _⟩) rfl (fun K hK => ?_) AllReadyH.nil
  go_simp
  (try (rw [rowIn_of (old := rowN .u64 64 4 0) (t' := 24) (by ((try rw [← Array.getElem?_eq_getElem]); repeat (first | exact heap_alloc_new _ _ | exact heap_alloc2_new _ _ _ | refine keep_alloc ?_ | refine keep_fr (by assumption) ?_))) (rowN_size _ _ _ _) (rowN_size _ _ _ _) (rowN_rowOne _ _ _ _)]; go_simp))
  refine hK.out _ _ ?_ (fun hHeld => ?_)
  · ((try dsimp only) <;> (first | exact ⟨⟨r0, r6⟩, F.drew⟩ | exact ⟨⟨keep_fr f5 hHeld.1.1, keep_fr f5 hHeld.1.2⟩, hHeld.2.trans' f5⟩ | exact ⟨⟨keep_alloc hHeld.1.1, keep_alloc hHeld.1.2⟩, hHeld.2.alloc _⟩ | exact ⟨⟨keep_row (by have := HG0.out; omega) hHeld.1.1, keep_row (by have := HG0.out; omega) hHeld.1.2⟩, hHeld.2.setRow (fun h => by have := HG0.out; omega) _⟩))
  clear hK K
  try (simp only [Act.put, List.setIfInBounds_toArray]; dsimp only [List.set_cons_zero, List.set_cons_succ])
  refine wpAnyH_ready (rs := [11]) (by kernel_rfl) (by simp) ?_
  refine AllReadyH.cons (o := ⟨_, _, _, _, _, _⟩) rfl (fun K hK => ?_) AllReadyH.nil
  go_simp
  (try (rw [rowIn_of (old := rowN .u64 64 4 0) (t' := 24) (by ((try rw [← Array.getElem?_eq_getElem]); repeat (first | exact heap_alloc_new _ _ | exact heap_alloc2_new _ _ _ | refine keep_row (by (try simp only [World.size_alloc]); omega) ?_ | refine keep_alloc ?_ | refine keep_fr (by assumption) ?_))) (rowN_size _ _ _ _) (rowN_size _ _ _ _) (rowN_rowOne _ _ _ _)]; go_simp))
  refine hK.out _ _ ?_ (fun hHeld => ?_)
  · ((try dsimp only) <;> (first | exact ⟨⟨r0, r6⟩, F.drew⟩ | exact ⟨⟨keep_fr f5 hHeld.1.1, keep_fr f5 hHeld.1.2⟩, hHeld.2.trans' f5⟩ | exact ⟨⟨keep_alloc hHeld.1.1, keep_alloc hHeld.1.2⟩, hHeld.2.alloc _⟩ | exact ⟨⟨keep_row (by have := HG0.out; omega) hHeld.1.1, keep_row (by have := HG0.out; omega) hHeld.1.2⟩, hHeld.2.setRow (fun h => by have := HG0.out; omega) _⟩))
  clear hK K
  try (simp only [Act.put, List.setIfInBounds_toArray]; dsimp only [List.set_cons_zero, List.set_cons_succ])
  refine wpAnyH_take (i := 12) (oi := ⟨_, _, _, _, _, _⟩) (v := ?_) rfl (by kernel_rfl) (by kernel_rfl) (by kernel_rfl) (fun _ _ _ h => h) (Or.inl ⟨by rfl, ?_⟩) (by assumption) ?_
  rotate_left
  · intro w hSw; (try dsimp only at hSw); go_simp; (try (with_reducible rfl)); done
  simp only [Act.put, List.setIfInBounds_toArray]; dsimp only [List.set_cons_zero, List.set_cons_succ]
  refine wpAnyH_done (by kernel_rfl) ?_ _
  refine NoPanic.normal ?_
  rotate_left
  go_simp
  refine hK.out _ _ ?_ (fun hHeld => ?_)
  · ((try dsimp only) <;> (first | exact ⟨⟨r0, r6⟩, F.drew⟩ | exact ⟨⟨keep_fr f5 hHeld.1.1, keep_fr f5 hHeld.1.2⟩, hHeld.2.trans' f5⟩ | exact ⟨⟨keep_alloc hHeld.1.1, keep_alloc hHeld.1.2⟩, hHeld.2.alloc _⟩ | exact ⟨⟨keep_row (by have := HG0.out; omega) hHeld.1.1, keep_row (by have := HG0.out; omega) hHeld.1.2⟩, hHeld.2.setRow (fun h => by have := HG0.out; omega) _⟩))
  clear hK K
  try (simp only [Act.put, List.setIfInBounds_toArray]; dsimp only [List.set_cons_zero, List.set_cons_succ])
  refine wpAnyH_ready (rs := [8]) (by kernel_rfl) (by simp) ?_
  refine AllReadyH.cons (o := ⟨_, _, _, _, _, _⟩) rfl (fun K hK => ?_) AllReadyH.nil
  go_simp
  refine hK.out _ _ ?_ (fun hHeld => ?_)
  · ((try dsimp only) <;> (first | exact ⟨⟨r0, r6⟩, F.drew⟩ | exact ⟨⟨keep_fr f5 hHeld.1.1, keep_fr f5 hHeld.1.2⟩, hHeld.2.trans' f5⟩ | exact ⟨⟨keep_alloc hHeld.1.1, keep_alloc hHeld.1.2⟩, hHeld.2.alloc _⟩ | exact ⟨⟨keep_row (by have := HG0.out; omega) hHeld.1.1, keep_row (by have := HG0.out; omega) hHeld.1.2⟩, hHeld.2.setRow (fun h => by have := HG0.out; omega) _⟩))
  clear hK K
  try (simp only [Act.put, List.setIfInBounds_toArray]; dsimp only [List.set_cons_zero, List.set_cons_succ])
  refine wpAnyH_ready (rs := [10]) (by kernel_rfl) (by simp) ?_
  refine AllReadyH.cons (o := ⟨_, _, _, _, _, _⟩) rfl (fun K hK => ?_) AllReadyH.nil
  go_simp
  (try (rw [rowIn_of (old := rowN .u64 64 4 0) (t' := 24) (by ((try rw [← Array.getElem?_eq_getElem]); repeat (first | exact heap_alloc_new _ _ | exact heap_alloc2_new _ _ _ | refine keep_alloc ?_ | refine keep_fr (by assumption) ?_))) (rowN_size _ _ _ _) (rowN_size _ _ _ _) (rowN_rowOne _ _ _ _)]; go_simp))
  refine hK.out _ _ ?_ (fun hHeld => ?_)
  · ((try dsimp only) <;> (first | exact ⟨⟨r0, r6⟩, F.drew⟩ | exact ⟨⟨keep_fr f5 hHeld.1.1, keep_fr f5 hHeld.1.2⟩, hHeld.2.trans' f5⟩ | exact ⟨⟨keep_alloc hHeld.1.1, keep_alloc hHeld.1.2⟩, hHeld.2.alloc _⟩ | exact ⟨⟨keep_row (by have := HG0.out; omega) hHeld.1.1, keep_row (by have := HG0.out; omega) hHeld.1.2⟩, hHeld.2.setRow (fun h => by have := HG0.out; omega) _⟩))
  clear hK K
  try (simp only [Act.put, List.setIfInBounds_toArray]; dsimp only [List.set_cons_zero, List.set_cons_succ])
  refine wpAnyH_ready (rs := [11]) (by kernel_rfl) (by simp) ?_
  refine AllReadyH.cons (o := ⟨_, _, _, _, _, _⟩) rfl (fun K hK => ?_) AllReadyH.nil
  go_simp
  (try (rw [rowIn_of (old := rowN .u64 64 4 0) (t' := 24) (by ((try rw [← Array.getElem?_eq_getElem]); repeat (first | exact heap_alloc_new _ _ | exact heap_alloc2_new _ _ _ | refine keep_row (by (try simp only [World.size_alloc]); omega) ?_ | refine keep_alloc ?_ | refine keep_fr (by assumption) ?_))) (rowN_size _ _ _ _) (rowN_size _ _ _ _) (rowN_rowOne _ _ _ _)]; go_simp))
  refine hK.out _ _ ?_ (fun hHeld => ?_)
  · ((try dsimp only) <;> (first | exact ⟨⟨r0, r6⟩, F.drew⟩ | exact ⟨⟨keep_fr f5 hHeld.1.1, keep_fr f5 hHeld.1.2⟩, hHeld.2.trans' f5⟩ | exact ⟨⟨keep_alloc hHeld.1.1, keep_alloc hHeld.1.2⟩, hHeld.2.alloc _⟩ | exact ⟨⟨keep_row (by have := HG0.out; omega) hHeld.1.1, keep_row (by have := HG0.out; omega) hHeld.1.2⟩, hHeld.2.setRow (fun h => by have := HG0.out; omega) _⟩))
  clear hK K
  try (simp only [Act.put, List.setIfInBounds_toArray]; dsimp only [List.set_cons_zero, List.set_cons_succ])
  refine wpAnyH_take (i := 12) (oi := ⟨_, _, _, _, _, _⟩) (v := ?_) rfl (by kernel_rfl) (by kernel_rfl) (by kernel_rfl) (fun _ _ _ h => h) (Or.inl ⟨by rfl, ?_⟩) (by assumption) ?_
  rotate_left
  · intro w hSw; (try dsimp only at hSw); go_simp; (try (with_reducible rfl)); done
  simp only [Act.put, List.setIfInBounds_toArray]; dsimp only [List.set_cons_zero, List.set_cons_succ]
  refine wpAnyH_done (by kernel_rfl) ?_ _
  refine NoPanic.normal ?_
  rotate_left
  go_simp
  refine hK.out _ _ ?_ (fun hHeld => ?_)
  · ((try dsimp only) <;> (first | exact ⟨⟨r0, r6⟩, F.drew⟩ | exact ⟨⟨keep_fr f5 hHeld.1.1, keep_fr f5 hHeld.1.2⟩, hHeld.2.trans' f5⟩ | exact ⟨⟨keep_alloc hHeld.1.1, keep_alloc hHeld.1.2⟩, hHeld.2.alloc _⟩ | exact ⟨⟨keep_row (by have := HG0.out; omega) hHeld.1.1, keep_row (by have := HG0.out; omega) hHeld.1.2⟩, hHeld.2.setRow (fun h => by have := HG0.out; omega) _⟩))
  clear hK K
  try (simp only [Act.put, List.setIfInBounds_toArray]; dsimp only [List.set_cons_zero, List.set_cons_succ])
  refine wpAnyH_ready (rs := [3, 9]) (by kernel_rfl) (by simp) ?_
  refine AllReadyH.cons (o := ⟨_, _, _, _, _, _⟩) rfl (fun K hK => ?_) (AllReadyH.cons (o := ⟨_, _, _, _, _, _⟩) rfl (fun K hK => ?_) AllReadyH.nil)
  go_simp
  (refine (HD.out _).mono ?_; rintro e w5 ⟨rfl, f5⟩; have z5 := f5.size; (try simp only [World.size_alloc, heap_drew'] at z5))
  refine hK.out _ _ ?_ (fun hHeld => ?_)
  · ((try dsimp only) <;> (first | exact ⟨⟨r0, r6⟩, F.drew⟩ | exact ⟨⟨keep_fr f5 hHeld.1.1, keep_fr f5 hHeld.1.2⟩, hHeld.2.trans' f5⟩ | exact ⟨⟨keep_alloc hHeld.1.1, keep_alloc hHeld.1.2⟩, hHeld.2.alloc _⟩ | exact ⟨⟨keep_row (by have := HG0.out; omega) hHeld.1.1, keep_row (by have := HG0.out; omega) hHeld.1.2⟩, hHeld.2.setRow (fun h => by have := HG0.out; omega) _⟩))
  clear hK K
  try (simp only [Act.put, List.setIfInBounds_toArray]; dsimp only [List.set_cons_zero, List.set_cons_succ])
  refine wpAnyH_take (i := 4) (oi := ⟨_, _, _, _, _, _⟩) (v := ?_) rfl (by kernel_rfl) (by kernel_rfl) (by kernel_rfl) (fun _ _ _ h => h) (Or.inl ⟨by rfl, ?_⟩) (by assumption) ?_
  rotate_left
  · intro w hSw; (try dsimp only at hSw); go_simp; (try (with_reducible rfl)); done
  simp only [Act.put, List.setIfInBounds_toArray]; dsimp only [List.set_cons_zero, List.set_cons_succ]
  refine wpAnyH_take (i := 5) (oi := ⟨_, _, _, _, _, _⟩) (v := ?_) rfl (by kernel_rfl) (by kernel_rfl) (by kernel_rfl) (fun _ _ _ h => h) (Or.inl ⟨by rfl, ?_⟩) (by assumption) ?_
  rotate_left
  · intro w hSw; (try dsimp only at hSw); go_simp; (try (with_reducible rfl)); done
  simp only [Act.put, List.setIfInBounds_toArray]; dsimp only [List.set_cons_zero, List.set_cons_succ]
  refine wpAnyH_take (i := 6) (oi := ⟨_, _, _, _, _, _⟩) (v := ?_) rfl (by kernel_rfl) (by kernel_rfl) (by kernel_rfl) (fun _ _ _ h => h) (Or.inl ⟨by rfl, ?_⟩) (by assumption) ?_
  rotate_left
  · intro w hSw; (try dsimp only at hSw); go_simp; (try (with_reducible rfl)); done
  simp only [Act.put, List.setIfInBounds_toArray]; dsimp only [List.set_cons_zero, List.set_cons_succ]
  refine wpAnyH_take (i := 7) (oi := ⟨_, _, _, _, _, _⟩) (v := ?_) rfl (by kernel_rfl) (by kernel_rfl) (by kernel_rfl) (fun _ _ _ h => h) (Or.inl ⟨by rfl, ?_⟩) (by assumption) ?_
  rotate_left
  · intro w hSw; (try dsimp only at hSw); go_simp; (try (with_reducible rfl)); done
  simp only [Act.put, List.setIfInBounds_toArray]; dsimp only [List.set_cons_zero, List.set_cons_succ]
  refine wpAnyH_ready (rs := [9]) (by kernel_rfl) (by simp) ?_
  refine AllReadyH.cons (o := ⟨_, _, _, _, _, _⟩) rfl (fun K hK => ?_) AllReadyH.nil
  go_simp
  refine hK.out _ _ ?_ (fun hHeld => ?_)
  · ((try dsimp only) <;> (first | exact ⟨⟨r0, r6⟩, F.drew⟩ | exact ⟨⟨keep_fr f5 hHeld.1.1, keep_fr f5 hHeld.1.2⟩, hHeld.2.trans' f5⟩ | exact ⟨⟨keep_alloc hHeld.1.1, keep_alloc hHeld.1.2⟩, hHeld.2.alloc _⟩ | exact ⟨⟨keep_row (by have := HG0.out; omega) hHeld.1.1, keep_row (by have := HG0.out; omega) hHeld.1.2⟩, hHeld.2.setRow (fun h => by have := HG0.out; omega) _⟩))
  clear hK K
  try (simp only [Act.put, List.setIfInBounds_toArray]; dsimp only [List.set_cons_zero, List.set_cons_succ])
  refine wpAnyH_ready (rs := [10]) (by kernel_rfl) (by simp) ?_
  refine AllReadyH.cons (o := ⟨_, _, _, _, _, _⟩) rfl (fun K hK => ?_) AllReadyH.nil
  go_simp
  (try (rw [rowIn_of (old := rowN .u64 64 4 0) (t' := 24) (by ((try rw [← Array.getElem?_eq_getElem]); repeat (first | exact heap_alloc_new _ _ | exact heap_alloc2_new _ _ _ | refine keep_alloc ?_ | refine keep_fr (by assumption) ?_))) (rowN_size _ _ _ _) (rowN_size _ _ _ _) (rowN_rowOne _ _ _ _)]; go_simp))
  refine hK.out _ _ ?_ (fun hHeld => ?_)
  · ((try dsimp only) <;> (first | exact ⟨⟨r0, r6⟩, F.drew⟩ | exact ⟨⟨keep_fr f5 hHeld.1.1, keep_fr f5 hHeld.1.2⟩, hHeld.2.trans' f5⟩ | exact ⟨⟨keep_alloc hHeld.1.1, keep_alloc hHeld.1.2⟩, hHeld.2.alloc _⟩ | exact ⟨⟨keep_row (by have := HG0.out; omega) hHeld.1.1, keep_row (by have := HG0.out; omega) hHeld.1.2⟩, hHeld.2.setRow (fun h => by have := HG0.out; omega) _⟩))
  clear hK K
  try (simp only [Act.put, List.setIfInBounds_toArray]; dsimp only [List.set_cons_zero, List.set_cons_succ])
  refine wpAnyH_ready (rs := [11]) (by kernel_rfl) (by simp) ?_
  refine AllReadyH.cons (o := ⟨_, _, _, _, _, _⟩) rfl (fun K hK => ?_) AllReadyH.nil
  go_simp
  (try (rw [rowIn_of (old := rowN .u64 64 4 0) (t' := 24) (by ((try rw [← Array.getElem?_eq_getElem]); repeat (first | exact heap_alloc_new _ _ | exact heap_alloc2_new _ _ _ | refine keep_row (by (try simp only [World.size_alloc]); omega) ?_ | refine keep_alloc ?_ | refine keep_fr (by assumption) ?_))) (rowN_size _ _ _ _) (rowN_size _ _ _ _) (rowN_rowOne _ _ _ _)]; go_simp))
  refine hK.out _ _ ?_ (fun hHeld => ?_)
  · ((try dsimp only) <;> (first | exact ⟨⟨r0, r6⟩, F.drew⟩ | exact ⟨⟨keep_fr f5 hHeld.1.1, keep_fr f5 hHeld.1.2⟩, hHeld.2.trans' f5⟩ | exact ⟨⟨keep_alloc hHeld.1.1, keep_alloc hHeld.1.2⟩, hHeld.2.alloc _⟩ | exact ⟨⟨keep_row (by have := HG0.out; omega) hHeld.1.1, keep_row (by have := HG0.out; omega) hHeld.1.2⟩, hHeld.2.setRow (fun h => by have := HG0.out; omega) _⟩))
  clear hK K
  try (simp only [Act.put, List.setIfInBounds_toArray]; dsimp only [List.set_cons_zero, List.set_cons_succ])
  refine wpAnyH_take (i := 12) (oi := ⟨_, _, _, _, _, _⟩) (v := ?_) rfl (by kernel_rfl) (by kernel_rfl) (by kernel_rfl) (fun _ _ _ h => h) (Or.inl ⟨by rfl, ?_⟩) (by assumption) ?_
  rotate_left
  · intro w hSw; (try dsimp only at hSw); go_simp; (try (with_reducible rfl)); done
  simp only [Act.put, List.setIfInBounds_toArray]; dsimp only [List.set_cons_zero, List.set_cons_succ]
  refine wpAnyH_done (by kernel_rfl) ?_ _
  refine NoPanic.normal ?_
  rotate_left
  go_simp
  refine hK.out _ _ ?_ (fun hHeld => ?_)
  · ((try dsimp only) <;> (first | exact ⟨⟨r0, r6⟩, F.drew⟩ | exact ⟨⟨keep_fr f5 hHeld.1.1, keep_fr f5 hHeld.1.2⟩, hHeld.2.trans' f5⟩ | exact ⟨⟨keep_alloc hHeld.1.1, keep_alloc hHeld.1.2⟩, hHeld.2.alloc _⟩ | exact ⟨⟨keep_row (by have := HG0.out; omega) hHeld.1.1, keep_row (by have := HG0.out; omega) hHeld.1.2⟩, hHeld.2.setRow (fun h => by have := HG0.out; omega) _⟩))
  clear hK K
  try (simp only [Act.put, List.setIfInBounds_toArray]; dsimp only [List.set_cons_zero, List.set_cons_succ])
  refine wpAnyH_ready (rs := [3]) (by kernel_rfl) (by simp) ?_
  refine AllReadyH.cons (o := ⟨_, _, _, _, _, _⟩) rfl (fun K hK => ?_) AllReadyH.nil
  go_simp
  (refine (HD.out _).mono ?_; rintro e w5 ⟨rfl, f5⟩; have z5 := f5.size; (try simp only [World.size_alloc, heap_drew'] at z5))
  refine hK.out _ _ ?_ (fun hHeld => ?_)
  · ((try dsimp only) <;> (first | exact ⟨⟨r0, r6⟩, F.drew⟩ | exact ⟨⟨keep_fr f5 hHeld.1.1, keep_fr f5 hHeld.1.2⟩, hHeld.2.trans' f5⟩ | exact ⟨⟨keep_alloc hHeld.1.1, keep_alloc hHeld.1.2⟩, hHeld.2.alloc _⟩ | exact ⟨⟨keep_row (by have := HG0.out; omega) hHeld.1.1, keep_row (by have := HG0.out; omega) hHeld.1.2⟩, hHeld.2.setRow (fun h => by have := HG0.out; omega) _⟩))
  clear hK K
  try (simp only [Act.put, List.setIfInBounds_toArray]; dsimp only [List.set_cons_zero, List.set_cons_succ])
  refine wpAnyH_take (i := 4) (oi := ⟨_, _, _, _, _, _⟩) (v := ?_) rfl (by kernel_rfl) (by kernel_rfl) (by kernel_rfl) (fun _ _ _ h => h) (Or.inl ⟨by rfl, ?_⟩) (by assumption) ?_
  rotate_left
  · intro w hSw; (try dsimp only at hSw); go_simp; (try (with_reducible rfl)); done
  simp only [Act.put, List.setIfInBounds_toArray]; dsimp only [List.set_cons_zero, List.set_cons_succ]
  refine wpAnyH_take (i := 5) (oi := ⟨_, _, _, _, _, _⟩) (v := ?_) rfl (by kernel_rfl) (by kernel_rfl) (by kernel_rfl) (fun _ _ _ h => h) (Or.inl ⟨by rfl, ?_⟩) (by assumption) ?_
  rotate_left
  · intro w hSw; (try dsimp only at hSw); go_simp; (try (with_reducible rfl)); done
  simp only [Act.put, List.setIfInBounds_toArray]; dsimp only [List.set_cons_zero, List.set_cons_succ]
  refine wpAnyH_take (i := 6) (oi := ⟨_, _, _, _, _, _⟩) (v := ?_) rfl (by kernel_rfl) (by kernel_rfl) (by kernel_rfl) (fun _ _ _ h => h) (Or.inl ⟨by rfl, ?_⟩) (by assumption) ?_
  rotate_left
  · intro w hSw; (try dsimp only at hSw); go_simp; (try (with_reducible rfl)); done
  simp only [Act.put, List.setIfInBounds_toArray]; dsimp only [List.set_cons_zero, List.set_cons_succ]
  refine wpAnyH_take (i := 7) (oi := ⟨_, _, _, _, _, _⟩) (v := ?_) rfl (by kernel_rfl) (by kernel_rfl) (by kernel_rfl) (fun _ _ _ h => h) (Or.inl ⟨by rfl, ?_⟩) (by assumption) ?_
  rotate_left
  · intro w hSw; (try dsimp only at hSw); go_simp; (try (with_reducible rfl)); done
  simp only [Act.put, List.setIfInBounds_toArray]; dsimp only [List.set_cons_zero, List.set_cons_succ]
  refine wpAnyH_ready (rs := [10]) (by kernel_rfl) (by simp) ?_
  refine AllReadyH.cons (o := ⟨_, _, _, _, _, _⟩) rfl (fun K hK => ?_) AllReadyH.nil
  go_simp
  (try (rw [rowIn_of (old := rowN .u64 64 4 0) (t' := 24) (by ((try rw [← Array.getElem?_eq_getElem]); repeat (first | exact heap_alloc_new _ _ | exact heap_alloc2_new _ _ _ | refine keep_alloc ?_ | refine keep_fr (by assumption) ?_))) (rowN_size _ _ _ _) (rowN_size _ _ _ _) (rowN_rowOne _ _ _ _)]; go_simp))
  refine hK.out _ _ ?_ (fun hHeld => ?_)
  · ((try dsimp only) <;> (first | exact ⟨⟨r0, r6⟩, F.drew⟩ | exact ⟨⟨keep_fr f5 hHeld.1.1, keep_fr f5 hHeld.1.2⟩, hHeld.2.trans' f5⟩ | exact ⟨⟨keep_alloc hHeld.1.1, keep_alloc hHeld.1.2⟩, hHeld.2.alloc _⟩ | exact ⟨⟨keep_row (by have := HG0.out; omega) hHeld.1.1, keep_row (by have := HG0.out; omega) hHeld.1.2⟩, hHeld.2.setRow (fun h => by have := HG0.out; omega) _⟩))
  clear hK K
  try (simp only [Act.put, List.setIfInBounds_toArray]; dsimp only [List.set_cons_zero, List.set_cons_succ])
  refine wpAnyH_ready (rs := [11]) (by kernel_rfl) (by simp) ?_
  refine AllReadyH.cons (o := ⟨_, _, _, _, _, _⟩) rfl (fun K hK => ?_) AllReadyH.nil
  go_simp
  (try (rw [rowIn_of (old := rowN .u64 64 4 0) (t' := 24) (by ((try rw [← Array.getElem?_eq_getElem]); repeat (first | exact heap_alloc_new _ _ | exact heap_alloc2_new _ _ _ | refine keep_row (by (try simp only [World.size_alloc]); omega) ?_ | refine keep_alloc ?_ | refine keep_fr (by assumption) ?_))) (rowN_size _ _ _ _) (rowN_size _ _ _ _) (rowN_rowOne _ _ _ _)]; go_simp))
  refine hK.out _ _ ?_ (fun hHeld => ?_)
  · ((try dsimp only) <;> (first | exact ⟨⟨r0, r6⟩, F.drew⟩ | exact ⟨⟨keep_fr f5 hHeld.1.1, keep_fr f5 hHeld.1.2⟩, hHeld.2.trans' f5⟩ | exact ⟨⟨keep_alloc hHeld.1.1, keep_alloc hHeld.1.2⟩, hHeld.2.alloc _⟩ | exact ⟨⟨keep_row (by have := HG0.out; omega) hHeld.1.1, keep_row (by have := HG0.out; omega) hHeld.1.2⟩, hHeld.2.setRow (fun h => by have := HG0.out; omega) _⟩))
  clear hK K
  try (simp only [Act.put, List.setIfInBounds_toArray]; dsimp only [List.set_cons_zero, List.set_cons_succ])
  refine wpAnyH_take (i := 12) (oi := ⟨_, _, _, _, _, _⟩) (v := ?_) rfl (by kernel_rfl) (by kernel_rfl) (by kernel_rfl) (fun _ _ _ h => h) (Or.inl ⟨by rfl, ?_⟩) (by assumption) ?_
  rotate_left
  · intro w hSw; (try dsimp only at hSw); go_simp; (try (with_reducible rfl)); done
  simp only [Act.put, List.setIfInBounds_toArray]; dsimp only [List.set_cons_zero, List.set_cons_succ]
  refine wpAnyH_done (by kernel_rfl) ?_ _
  refine NoPanic.normal ?_
  rotate_left
  go_simp
  refine hK.out _ _ ?_ (fun hHeld => ?_)
  · ((try dsimp only) <;> (first | exact ⟨⟨r0, r6⟩, F.drew⟩ | exact ⟨⟨keep_fr f5 hHeld.1.1, keep_fr f5 hHeld.1.2⟩, hHeld.2.trans' f5⟩ | exact ⟨⟨keep_alloc hHeld.1.1, keep_alloc hHeld.1.2⟩, hHeld.2.alloc _⟩ | exact ⟨⟨keep_row (by have := HG0.out; omega) hHeld.1.1, keep_row (by have := HG0.out; omega) hHeld.1.2⟩, hHeld.2.setRow (fun h => by have := HG0.out; omega) _⟩))
  clear hK K
  try (simp only [Act.put, List.setIfInBounds_toArray]; dsimp only [List.set_cons_zero, List.set_cons_succ])
  refine wpAnyH_ready (rs := [3, 8]) (by kernel_rfl) (by simp) ?_
  refine AllReadyH.cons (o := ⟨_, _, _, _, _, _⟩) rfl (fun K hK => ?_) (AllReadyH.cons (o := ⟨_, _, _, _, _, _⟩) rfl (fun K hK => ?_) AllReadyH.nil)
  go_simp
  (refine (HD.out _).mono ?_; rintro e w5 ⟨rfl, f5⟩; have z5 := f5.size; (try simp only [World.size_alloc, heap_drew'] at z5))
  refine hK.out _ _ ?_ (fun hHeld => ?_)
  · ((try dsimp only) <;> (first | exact ⟨⟨r0, r6⟩, F.drew⟩ | exact ⟨⟨keep_fr f5 hHeld.1.1, keep_fr f5 hHeld.1.2⟩, hHeld.2.trans' f5⟩ | exact ⟨⟨keep_alloc hHeld.1.1, keep_alloc hHeld.1.2⟩, hHeld.2.alloc _⟩ | exact ⟨⟨keep_row (by have := HG0.out; omega) hHeld.1.1, keep_row (by have := HG0.out; omega) hHeld.1.2⟩, hHeld.2.setRow (fun h => by have := HG0.out; omega) _⟩))
  clear hK K
  try (simp only [Act.put, List.setIfInBounds_toArray]; dsimp only [List.set_cons_zero, List.set_cons_succ])
  refine wpAnyH_take (i := 4) (oi := ⟨_, _, _, _, _, _⟩) (v := ?_) rfl (by kernel_rfl) (by kernel_rfl) (by kernel_rfl) (fun _ _ _ h => h) (Or.inl ⟨by rfl, ?_⟩) (by assumption) ?_
  rotate_left
  · intro w hSw; (try dsimp only at hSw); go_simp; (try (with_reducible rfl)); done
  simp only [Act.put, List.setIfInBounds_toArray]; dsimp only [List.set_cons_zero, List.set_cons_succ]
  refine wpAnyH_take (i := 5) (oi := ⟨_, _, _, _, _, _⟩) (v := ?_) rfl (by kernel_rfl) (by kernel_rfl) (by kernel_rfl) (fun _ _ _ h => h) (Or.inl ⟨by rfl, ?_⟩) (by assumption) ?_
  rotate_left
  · intro w hSw; (try dsimp only at hSw); go_simp; (try (with_reducible rfl)); done
  simp only [Act.put, List.setIfInBounds_toArray]; dsimp only [List.set_cons_zero, List.set_cons_succ]
  refine wpAnyH_take (i := 6) (oi := ⟨_, _, _, _, _, _⟩) (v := ?_) rfl (by kernel_rfl) (by kernel_rfl) (by kernel_rfl) (fun _ _ _ h => h) (Or.inl ⟨by rfl, ?_⟩) (by assumption) ?_
  rotate_left
  · intro w hSw; (try dsimp only at hSw); go_simp; (try (with_reducible rfl)); done
  simp only [Act.put, List.setIfInBounds_toArray]; dsimp only [List.set_cons_zero, List.set_cons_succ]
  refine wpAnyH_take (i := 7) (oi := ⟨_, _, _, _, _, _⟩) (v := ?_) rfl (by kernel_rfl) (by kernel_rfl) (by kernel_rfl) (fun _ _ _ h => h) (Or.inl ⟨by rfl, ?_⟩) (by assumption) ?_
  rotate_left
  · intro w hSw; (try dsimp only at hSw); go_simp; (try (with_reducible rfl)); done
  simp only [Act.put, List.setIfInBounds_toArray]; dsimp only [List.set_cons_zero, List.set_cons_succ]
  refine wpAnyH_ready (rs := [8]) (by kernel_rfl) (by simp) ?_
  refine AllReadyH.cons (o := ⟨_, _, _, _, _, _⟩) rfl (fun K hK => ?_) AllReadyH.nil
  go_simp
  refine hK.out _ _ ?_ (fun hHeld => ?_)
  · ((try dsimp only) <;> (first | exact ⟨⟨r0, r6⟩, F.drew⟩ | exact ⟨⟨keep_fr f5 hHeld.1.1, keep_fr f5 hHeld.1.2⟩, hHeld.2.trans' f5⟩ | exact ⟨⟨keep_alloc hHeld.1.1, keep_alloc hHeld.1.2⟩, hHeld.2.alloc _⟩ | exact ⟨⟨keep_row (by have := HG0.out; omega) hHeld.1.1, keep_row (by have := HG0.out; omega) hHeld.1.2⟩, hHeld.2.setRow (fun h => by have := HG0.out; omega) _⟩))
  clear hK K
  try (simp only [Act.put, List.setIfInBounds_toArray]; dsimp only [List.set_cons_zero, List.set_cons_succ])
  refine wpAnyH_ready (rs := [10]) (by kernel_rfl) (by simp) ?_
  refine AllReadyH.cons (o := ⟨_, _, _, _, _, _⟩) rfl (fun K hK => ?_) AllReadyH.nil
  go_simp
  (try (rw [rowIn_of (old := rowN .u64 64 4 0) (t' := 24) (by ((try rw [← Array.getElem?_eq_getElem]); repeat (first | exact heap_alloc_new _ _ | exact heap_alloc2_new _ _ _ | refine keep_alloc ?_ | refine keep_fr (by assumption) ?_))) (rowN_size _ _ _ _) (rowN_size _ _ _ _) (rowN_rowOne _ _ _ _)]; go_simp))
  refine hK.out _ _ ?_ (fun hHeld => ?_)
  · ((try dsimp only) <;> (first | exact ⟨⟨r0, r6⟩, F.drew⟩ | exact ⟨⟨keep_fr f5 hHeld.1.1, keep_fr f5 hHeld.1.2⟩, hHeld.2.trans' f5⟩ | exact ⟨⟨keep_alloc hHeld.1.1, keep_alloc hHeld.1.2⟩, hHeld.2.alloc _⟩ | exact ⟨⟨keep_row (by have := HG0.out; omega) hHeld.1.1, keep_row (by have := HG0.out; omega) hHeld.1.2⟩, hHeld.2.setRow (fun h => by have := HG0.out; omega) _⟩))
  clear hK K
  try (simp only [Act.put, List.setIfInBounds_toArray]; dsimp only [List.set_cons_zero, List.set_cons_succ])
  refine wpAnyH_ready (rs := [11]) (by kernel_rfl) (by simp) ?_
  refine AllReadyH.cons (o := ⟨_, _, _, _, _, _⟩) rfl (fun K hK => ?_) AllReadyH.nil
  go_simp
  (try (rw [rowIn_of (old := rowN .u64 64 4 0) (t' := 24) (by ((try rw [← Array.getElem?_eq_getElem]); repeat (first | exact heap_alloc_new _ _ | exact heap_alloc2_new _ _ _ | refine keep_row (by (try simp only [World.size_alloc]); omega) ?_ | refine keep_alloc ?_ | refine keep_fr (by assumption) ?_))) (rowN_size _ _ _ _) (rowN_size _ _ _ _) (rowN_rowOne _ _ _ _)]; go_simp))
  refine hK.out _ _ ?_ (fun hHeld => ?_)
  · ((try dsimp only) <;> (first | exact ⟨⟨r0, r6⟩, F.drew⟩ | exact ⟨⟨keep_fr f5 hHeld.1.1, keep_fr f5 hHeld.1.2⟩, hHeld.2.trans' f5⟩ | exact ⟨⟨keep_alloc hHeld.1.1, keep_alloc hHeld.1.2⟩, hHeld.2.alloc _⟩ | exact ⟨⟨keep_row (by have := HG0.out; omega) hHeld.1.1, keep_row (by have := HG0.out; omega) hHeld.1.2⟩, hHeld.2.setRow (fun h => by have := HG0.out; omega) _⟩))
  clear hK K
  try (simp only [Act.put, List.setIfInBounds_toArray]; dsimp only [List.set_cons_zero, List.set_cons_succ])
  refine wpAnyH_take (i := 12) (oi := ⟨_, _, _, _, _, _⟩) (v := ?_) rfl (by kernel_rfl) (by kernel_rfl) (by kernel_rfl) (fun _ _ _ h => h) (Or.inl ⟨by rfl, ?_⟩) (by assumption) ?_
  rotate_left
  · intro w hSw; (try dsimp only at hSw); go_simp; (try (with_reducible rfl)); done
  simp only [Act.put, List.setIfInBounds_toArray]; dsimp only [List.set_cons_zero, List.set_cons_succ]
  refine wpAnyH_done (by kernel_rfl) ?_ _
  refine NoPanic.normal ?_
  rotate_left
  go_simp
  refine hK.out _ _ ?_ (fun hHeld => ?_)
  · ((try dsimp only) <;> (first | exact ⟨⟨r0, r6⟩, F.drew⟩ | exact ⟨⟨keep_fr f5 hHeld.1.1, keep_fr f5 hHeld.1.2⟩, hHeld.2.trans' f5⟩ | exact ⟨⟨keep_alloc hHeld.1.1, keep_alloc hHeld.1.2⟩, hHeld.2.alloc _⟩ | exact ⟨⟨keep_row (by have := HG0.out; omega) hHeld.1.1, keep_row (by have := HG0.out; omega) hHeld.1.2⟩, hHeld.2.setRow (fun h => by have := HG0.out; omega) _⟩))
  clear hK K
  try (simp only [Act.put, List.setIfInBounds_toArray]; dsimp only [List.set_cons_zero, List.set_cons_succ])
  refine wpAnyH_ready (rs := [3]) (by kernel_rfl) (by simp) ?_
  refine AllReadyH.cons (o := ⟨_, _, _, _, _, _⟩) rfl (fun K hK => ?_) AllReadyH.nil
  go_simp
  (refine (HD.out _).mono ?_; rintro e w5 ⟨rfl, f5⟩; have z5 := f5.size; (try simp only [World.size_alloc, heap_drew'] at z5))
  refine hK.out _ _ ?_ (fun hHeld => ?_)
  · ((try dsimp only) <;> (first | exact ⟨⟨r0, r6⟩, F.drew⟩ | exact ⟨⟨keep_fr f5 hHeld.1.1, keep_fr f5 hHeld.1.2⟩, hHeld.2.trans' f5⟩ | exact ⟨⟨keep_alloc hHeld.1.1, keep_alloc hHeld.1.2⟩, hHeld.2.alloc _⟩ | exact ⟨⟨keep_row (by have := HG0.out; omega) hHeld.1.1, keep_row (by have := HG0.out; omega) hHeld.1.2⟩, hHeld.2.setRow (fun h => by have := HG0.out; omega) _⟩))
  clear hK K
  try (simp only [Act.put, List.setIfInBounds_toArray]; dsimp only [List.set_cons_zero, List.set_cons_succ])
  refine wpAnyH_take (i := 4) (oi := ⟨_, _, _, _, _, _⟩) (v := ?_) rfl (by kernel_rfl) (by kernel_rfl) (by kernel_rfl) (fun _ _ _ h => h) (Or.inl ⟨by rfl, ?_⟩) (by assumption) ?_
  rotate_left
  · intro w hSw; (try dsimp only at hSw); go_simp; (try (with_reducible rfl)); done
  simp only [Act.put, List.setIfInBounds_toArray]; dsimp only [List.set_cons_zero, List.set_cons_succ]
  refine wpAnyH_take (i := 5) (oi := ⟨_, _, _, _, _, _⟩) (v := ?_) rfl (by kernel_rfl) (by kernel_rfl) (by kernel_rfl) (fun _ _ _ h => h) (Or.inl ⟨by rfl, ?_⟩) (by assumption) ?_
  rotate_left
  · intro w hSw; (try dsimp only at hSw); go_simp; (try (with_reducible rfl)); done
  simp only [Act.put, List.setIfInBounds_toArray]; dsimp only [List.set_cons_zero, List.set_cons_succ]
  refine wpAnyH_take (i := 6) (oi := ⟨_, _, _, _, _, _⟩) (v := ?_) rfl (by kernel_rfl) (by kernel_rfl) (by kernel_rfl) (fun _ _ _ h => h) (Or.inl ⟨by rfl, ?_⟩) (by assumption) ?_
  rotate_left
  · intro w hSw; (try dsimp only at hSw); go_simp; (try (with_reducible rfl)); done
  simp only [Act.put, List.setIfInBounds_toArray]; dsimp only [List.set_cons_zero, List.set_cons_succ]
  refine wpAnyH_take (i := 7) (oi := ⟨_, _, _, _, _, _⟩) (v := ?_) rfl (by kernel_rfl) (by kernel_rfl) (by kernel_rfl) (fun _ _ _ h => h) (Or.inl ⟨by rfl, ?_⟩) (by assumption) ?_
  rotate_left
  · intro w hSw; (try dsimp only at hSw); go_simp; (try (with_reducible rfl)); done
  simp only [Act.put, List.setIfInBounds_toArray]; dsimp only [List.set_cons_zero, List.set_cons_succ]
  refine wpAnyH_ready (rs := [10]) (by kernel_rfl) (by simp) ?_
  refine AllReadyH.cons (o := ⟨_, _, _, _, _, _⟩) rfl (fun K hK => ?_) AllReadyH.nil
  go_simp
  (try (rw [rowIn_of (old := rowN .u64 64 4 0) (t' := 24) (by ((try rw [← Array.getElem?_eq_getElem]); repeat (first | exact heap_alloc_new _ _ | exact heap_alloc2_new _ _ _ | refine keep_alloc ?_ | refine keep_fr (by assumption) ?_))) (rowN_size _ _ _ _) (rowN_size _ _ _ _) (rowN_rowOne _ _ _ _)]; go_simp))
  refine hK.out _ _ ?_ (fun hHeld => ?_)
  · ((try dsimp only) <;> (first | exact ⟨⟨r0, r6⟩, F.drew⟩ | exact ⟨⟨keep_fr f5 hHeld.1.1, keep_fr f5 hHeld.1.2⟩, hHeld.2.trans' f5⟩ | exact ⟨⟨keep_alloc hHeld.1.1, keep_alloc hHeld.1.2⟩, hHeld.2.alloc _⟩ | exact ⟨⟨keep_row (by have := HG0.out; omega) hHeld.1.1, keep_row (by have := HG0.out; omega) hHeld.1.2⟩, hHeld.2.setRow (fun h => by have := HG0.out; omega) _⟩))
  clear hK K
  try (simp only [Act.put, List.setIfInBounds_toArray]; dsimp only [List.set_cons_zero, List.set_cons_succ])
  refine wpAnyH_ready (rs := [11]) (by kernel_rfl) (by simp) ?_
  refine AllReadyH.cons (o := ⟨_, _, _, _, _, _⟩) rfl (fun K hK => ?_) AllReadyH.nil
  go_simp
  (try (rw [rowIn_of (old := rowN .u64 64 4 0) (t' := 24) (by ((try rw [← Array.getElem?_eq_getElem]); repeat (first | exact heap_alloc_new _ _ | exact heap_alloc2_new _ _ _ | refine keep_row (by (try simp only [World.size_alloc]); omega) ?_ | refine keep_alloc ?_ | refine keep_fr (by assumption) ?_))) (rowN_size _ _ _ _) (rowN_size _ _ _ _) (rowN_rowOne _ _ _ _)]; go_simp))
  refine hK.out _ _ ?_ (fun hHeld => ?_)
  · ((try dsimp only) <;> (first | exact ⟨⟨r0, r6⟩, F.drew⟩ | exact ⟨⟨keep_fr f5 hHeld.1.1, keep_fr f5 hHeld.1.2⟩, hHeld.2.trans' f5⟩ | exact ⟨⟨keep_alloc hHeld.1.1, keep_alloc hHeld.1.2⟩, hHeld.2.alloc _⟩ | exact ⟨⟨keep_row (by have := HG0.out; omega) hHeld.1.1, keep_row (by have := HG0.out; omega) hHeld.1.2⟩, hHeld.2.setRow (fun h => by have := HG0.out; omega) _⟩))
  clear hK K
  try (simp only [Act.put, List.setIfInBounds_toArray]; dsimp only [List.set_cons_zero, List.set_cons_succ])
  refine wpAnyH_take (i := 12) (oi := ⟨_, _, _, _, _, _⟩) (v := ?_) rfl (by kernel_rfl) (by kernel_rfl) (by kernel_rfl) (fun _ _ _ h => h) (Or.inl ⟨by rfl, ?_⟩) (by assumption) ?_
  rotate_left
  · intro w hSw; (try dsimp only at hSw); go_simp; (try (with_reducible rfl)); done
  simp only [Act.put, List.setIfInBounds_toArray]; dsimp only [List.set_cons_zero, List.set_cons_succ]
  refine wpAnyH_done (by kernel_rfl) ?_ _
  refine NoPanic.normal ?_
  rotate_left
  go_simp
  refine hK.out _ _ ?_ (fun hHeld => ?_)
  · ((try dsimp only) <;> (first | exact ⟨⟨r0, r6⟩, F.drew⟩ | exact ⟨⟨keep_fr f5 hHeld.1.1, keep_fr f5 hHeld.1.2⟩, hHeld.2.trans' f5⟩ | exact ⟨⟨keep_alloc hHeld.1.1, keep_alloc hHeld.1.2⟩, hHeld.2.alloc _⟩ | exact ⟨⟨keep_row (by have := HG0.out; omega) hHeld.1.1, keep_row (by have := HG0.out; omega) hHeld.1.2⟩, hHeld.2.setRow (fun h => by have := HG0.out; omega) _⟩))
  clear hK K
  try (simp only [Act.put, List.setIfInBounds_toArray]; dsimp only [List.set_cons_zero, List.set_cons_succ])
  refine wpAnyH_ready (rs := [2, 9]) (by kernel_rfl) (by simp) ?_
  refine AllReadyH.cons (o := ⟨_, _, _, _, _, _⟩) rfl (fun K hK => ?_) (AllReadyH.cons (o := ⟨_, _, _, _, _, _⟩) rfl (fun K hK => ?_) AllReadyH.nil)
  go_simp
  (refine (HO.out _).mono ?_; rintro e w5 ⟨rfl, f5⟩; have z5 := f5.size; (try simp only [World.size_alloc, heap_drew'] at z5))
  refine hK.out _ _ ?_ (fun hHeld => ?_)
  · ((try dsimp only) <;> (first | exact ⟨⟨r0, r6⟩, F.drew⟩ | exact ⟨⟨keep_fr f5 hHeld.1.1, keep_fr f5 hHeld.1.2⟩, hHeld.2.trans' f5⟩ | exact ⟨⟨keep_alloc hHeld.1.1, keep_alloc hHeld.1.2⟩, hHeld.2.alloc _⟩ | exact ⟨⟨keep_row (by have := HG0.out; omega) hHeld.1.1, keep_row (by have := HG0.out; omega) hHeld.1.2⟩, hHeld.2.setRow (fun h => by have := HG0.out; omega) _⟩))
  clear hK K
  try (simp only [Act.put, List.setIfInBounds_toArray]; dsimp only [List.set_cons_zero, List.set_cons_succ])
  refine wpAnyH_ready (rs := [3, 9]) (by kernel_rfl) (by simp) ?_
  refine AllReadyH.cons (o := ⟨_, _, _, _, _, _⟩) rfl (fun K hK => ?_) (AllReadyH.cons (o := ⟨_, _, _, _, _, _⟩) rfl (fun K hK => ?_) AllReadyH.nil)
  go_simp
  (refine (HD.out _).mono ?_; rintro e w5 ⟨rfl, f5⟩; have z5 := f5.size; (try simp only [World.size_alloc, heap_drew'] at z5))
  refine hK.out _ _ ?_ (fun hHeld => ?_)
  · ((try dsimp only) <;> (first | exact ⟨⟨r0, r6⟩, F.drew⟩ | exact ⟨⟨keep_fr f5 hHeld.1.1, keep_fr f5 hHeld.1.2⟩, hHeld.2.trans' f5⟩ | exact ⟨⟨keep_alloc hHeld.1.1, keep_alloc hHeld.1.2⟩, hHeld.2.alloc _⟩ | exact ⟨⟨keep_row (by have := HG0.out; omega) hHeld.1.1, keep_row (by have := HG0.out; omega) hHeld.1.2⟩, hHeld.2.setRow (fun h => by have := HG0.out; omega) _⟩))
  clear hK K
  try (simp only [Act.put, List.setIfInBounds_toArray]; dsimp only [List.set_cons_zero, List.set_cons_succ])
  refine wpAnyH_take (i := 4) (oi := ⟨_, _, _, _, _, _⟩) (v := ?_) rfl (by kernel_rfl) (by kernel_rfl) (by kernel_rfl) (fun _ _ _ h => h) (Or.inl ⟨by rfl, ?_⟩) (by assumption) ?_
  rotate_left
  · intro w hSw; (try dsimp only at hSw); go_simp; (try (with_reducible rfl)); done
  simp only [Act.put, List.setIfInBounds_toArray]; dsimp only [List.set_cons_zero, List.set_cons_succ]
  refine wpAnyH_take (i := 5) (oi := ⟨_, _, _, _, _, _⟩) (v := ?_) rfl (by kernel_rfl) (by kernel_rfl) (by kernel_rfl) (fun _ _ _ h => h) (Or.inl ⟨by rfl, ?_⟩) (by assumption) ?_
  rotate_left
  · intro w hSw; (try dsimp only at hSw); go_simp; (try (with_reducible rfl)); done
  simp only [Act.put, List.setIfInBounds_toArray]; dsimp only [List.set_cons_zero, List.set_cons_succ]
  refine wpAnyH_take (i := 6) (oi := ⟨_, _, _, _, _, _⟩) (v := ?_) rfl (by kernel_rfl) (by kernel_rfl) (by kernel_rfl) (fun _ _ _ h => h) (Or.inl ⟨by rfl, ?_⟩) (by assumption) ?_
  rotate_left
  · intro w hSw; (try dsimp only at hSw); go_simp; (try (with_reducible rfl)); done
  simp only [Act.put, List.setIfInBounds_toArray]; dsimp only [List.set_cons_zero, List.set_cons_succ]
  refine wpAnyH_take (i := 7) (oi := ⟨_, _, _, _, _, _⟩) (v := ?_) rfl (by kernel_rfl) (by kernel_rfl) (by kernel_rfl) (fun _ _ _ h => h) (Or.inl ⟨by rfl, ?_⟩) (by assumption) ?_
  rotate_left
  · intro w hSw; (try dsimp only at hSw); go_simp; (try (with_reducible rfl)); done
  simp only [Act.put, List.setIfInBounds_toArray]; dsimp only [List.set_cons_zero, List.set_cons_succ]
  refine wpAnyH_ready (rs := [9]) (by kernel_rfl) (by simp) ?_
  refine AllReadyH.cons (o := ⟨_, _, _, _, _, _⟩) rfl (fun K hK => ?_) AllReadyH.nil
  go_simp
  refine hK.out _ _ ?_ (fun hHeld => ?_)
  · ((try dsimp only) <;> (first | exact ⟨⟨r0, r6⟩, F.drew⟩ | exact ⟨⟨keep_fr f5 hHeld.1.1, keep_fr f5 hHeld.1.2⟩, hHeld.2.trans' f5⟩ | exact ⟨⟨keep_alloc hHeld.1.1, keep_alloc hHeld.1.2⟩, hHeld.2.alloc _⟩ | exact ⟨⟨keep_row (by have := HG0.out; omega) hHeld.1.1, keep_row (by have := HG0.out; omega) hHeld.1.2⟩, hHeld.2.setRow (fun h => by have := HG0.out; omega) _⟩))
  clear hK K
  try (simp only [Act.put, List.setIfInBounds_toArray]; dsimp only [List.set_cons_zero, List.set_cons_succ])
  refine wpAnyH_ready (rs := [10]) (by kernel_rfl) (by simp) ?_
  refine AllReadyH.cons (o := ⟨_, _, _, _, _, _⟩) rfl (fun K hK => ?_) AllReadyH.nil
  go_simp
  (try (rw [rowIn_of (old := rowN .u64 64 4 0) (t' := 24) (by ((try rw [← Array.getElem?_eq_getElem]); repeat (first | exact heap_alloc_new _ _ | exact heap_alloc2_new _ _ _ | refine keep_alloc ?_ | refine keep_fr (by assumption) ?_))) (rowN_size _ _ _ _) (rowN_size _ _ _ _) (rowN_rowOne _ _ _ _)]; go_simp))
  refine hK.out _ _ ?_ (fun hHeld => ?_)
  · ((try dsimp only) <;> (first | exact ⟨⟨r0, r6⟩, F.drew⟩ | exact ⟨⟨keep_fr f5 hHeld.1.1, keep_fr f5 hHeld.1.2⟩, hHeld.2.trans' f5⟩ | exact ⟨⟨keep_alloc hHeld.1.1, keep_alloc hHeld.1.2⟩, hHeld.2.alloc _⟩ | exact ⟨⟨keep_row (by have := HG0.out; omega) hHeld.1.1, keep_row (by have := HG0.out; omega) hHeld.1.2⟩, hHeld.2.setRow (fun h => by have := HG0.out; omega) _⟩))
  clear hK K
  try (simp only [Act.put, List.setIfInBounds_toArray]; dsimp only [List.set_cons_zero, List.set_cons_succ])
  refine wpAnyH_ready (rs := [11]) (by kernel_rfl) (by simp) ?_
  refine AllReadyH.cons (o := ⟨_, _, _, _, _, _⟩) rfl (fun K hK => ?_) AllReadyH.nil
  go_simp
  (try (rw [rowIn_of (old := rowN .u64 64 4 0) (t' := 24) (by ((try rw [← Array.getElem?_eq_getElem]); repeat (first | exact heap_alloc_new _ _ | exact heap_alloc2_new _ _ _ | refine keep_row (by (try simp only [World.size_alloc]); omega) ?_ | refine keep_alloc ?_ | refine keep_fr (by assumption) ?_))) (rowN_size _ _ _ _) (rowN_size _ _ _ _) (rowN_rowOne _ _ _ _)]; go_simp))
  refine hK.out _ _ ?_ (fun hHeld => ?_)
  · ((try dsimp only) <;> (first | exact ⟨⟨r0, r6⟩, F.drew⟩ | exact ⟨⟨keep_fr f5 hHeld.1.1, keep_fr f5 hHeld.1.2⟩, hHeld.2.trans' f5⟩ | exact ⟨⟨keep_alloc hHeld.1.1, keep_alloc hHeld.1.2⟩, hHeld.2.alloc _⟩ | exact ⟨⟨keep_row (by have := HG0.out; omega) hHeld.1.1, keep_row (by have := HG0.out; omega) hHeld.1.2⟩, hHeld.2.setRow (fun h => by have := HG0.out; omega) _⟩))
  clear hK K
  try (simp only [Act.put, List.setIfInBounds_toArray]; dsimp only [List.set_cons_zero, List.set_cons_succ])
  refine wpAnyH_take (i := 12) (oi := ⟨_, _, _, _, _, _⟩) (v := ?_) rfl (by kernel_rfl) (by kernel_rfl) (by kernel_rfl) (fun _ _ _ h => h) (Or.inl ⟨by rfl, ?_⟩) (by assumption) ?_
  rotate_left
  · intro w hSw; (try dsimp only at hSw); go_simp; (try (with_reducible rfl)); done
  simp only [Act.put, List.setIfInBounds_toArray]; dsimp only [List.set_cons_zero, List.set_cons_succ]
  refine wpAnyH_done (by kernel_rfl) ?_ _
  refine NoPanic.normal ?_
  rotate_left
  go_simp
  refine hK.out _ _ ?_ (fun hHeld => ?_)
  · ((try dsimp only) <;> (first | exact ⟨⟨r0, r6⟩, F.drew⟩ | exact ⟨⟨keep_fr f5 hHeld.1.1, keep_fr f5 hHeld.1.2⟩, hHeld.2.trans' f5⟩ | exact ⟨⟨keep_alloc hHeld.1.1, keep_alloc hHeld.1.2⟩, hHeld.2.alloc _⟩ | exact ⟨⟨keep_row (by have := HG0.out; omega) hHeld.1.1, keep_row (by have := HG0.out; omega) hHeld.1.2⟩, hHeld.2.setRow (fun h => by have := HG0.out; omega) _⟩))
  clear hK K
  try (simp only [Act.put, List.setIfInBounds_toArray]; dsimp only [List.set_cons_zero, List.set_cons_succ])
  refine wpAnyH_ready (rs := [3]) (by kernel_rfl) (by simp) ?_
  refine AllReadyH.cons (o := ⟨_, _, _, _, _, _⟩) rfl (fun K hK => ?_) AllReadyH.nil
  go_simp
  (refine (HD.out _).mono ?_; rintro e w5 ⟨rfl, f5⟩; have z5 := f5.size; (try simp only [World.size_alloc, heap_drew'] at z5))
  refine hK.out _ _ ?_ (fun hHeld => ?_)
  · ((try dsimp only) <;> (first | exact ⟨⟨r0, r6⟩, F.drew⟩ | exact ⟨⟨keep_fr f5 hHeld.1.1, keep_fr f5 hHeld.1.2⟩, hHeld.2.trans' f5⟩ | exact ⟨⟨keep_alloc hHeld.1.1, keep_alloc hHeld.1.2⟩, hHeld.2.alloc _⟩ | exact ⟨⟨keep_row (by have := HG0.out; omega) hHeld.1.1, keep_row (by have := HG0.out; omega) hHeld.1.2⟩, hHeld.2.setRow (fun h => by have := HG0.out; omega) _⟩))
  clear hK K
  try (simp only [Act.put, List.setIfInBounds_toArray]; dsimp only [List.set_cons_zero, List.set_cons_succ])
  refine wpAnyH_take (i := 4) (oi := ⟨_, _, _, _, _, _⟩) (v := ?_) rfl (by kernel_rfl) (by kernel_rfl) (by kernel_rfl) (fun _ _ _ h => h) (Or.inl ⟨by rfl, ?_⟩) (by assumption) ?_
  rotate_left
  · intro w hSw; (try dsimp only at hSw); go_simp; (try (with_reducible rfl)); done
  simp only [Act.put, List.setIfInBounds_toArray]; dsimp only [List.set_cons_zero, List.set_cons_succ]
  refine wpAnyH_take (i := 5) (oi := ⟨_, _, _, _, _, _⟩) (v := ?_) rfl (by kernel_rfl) (by kernel_rfl) (by kernel_rfl) (fun _ _ _ h => h) (Or.inl ⟨by rfl, ?_⟩) (by assumption) ?_
  rotate_left
  · intro w hSw; (try dsimp only at hSw); go_simp; (try (with_reducible rfl)); done
  simp only [Act.put, List.setIfInBounds_toArray]; dsimp only [List.set_cons_zero, List.set_cons_succ]
  refine wpAnyH_take (i := 6) (oi := ⟨_, _, _, _, _, _⟩) (v := ?_) rfl (by kernel_rfl) (by kernel_rfl) (by kernel_rfl) (fun _ _ _ h => h) (Or.inl ⟨by rfl, ?_⟩) (by assumption) ?_
  rotate_left
  · intro w hSw; (try dsimp only at hSw); go_simp; (try (with_reducible rfl)); done
  simp only [Act.put, List.setIfInBounds_toArray]; dsimp only [List.set_cons_zero, List.set_cons_succ]
  refine wpAnyH_take (i := 7) (oi := ⟨_, _, _, _, _, _⟩) (v := ?_) rfl (by kernel_rfl) (by kernel_rfl) (by kernel_rfl) (fun _ _ _ h => h) (Or.inl ⟨by rfl, ?_⟩) (by assumption) ?_
  rotate_left
  · intro w hSw; (try dsimp only at hSw); go_simp; (try (with_reducible rfl)); done
  simp only [Act.put, List.setIfInBounds_toArray]; dsimp only [List.set_cons_zero, List.set_cons_succ]
  refine wpAnyH_ready (rs := [10]) (by kernel_rfl) (by simp) ?_
  refine AllReadyH.cons (o := ⟨_, _, _, _, _, _⟩) rfl (fun K hK => ?_) AllReadyH.nil
  go_simp
  (try (rw [rowIn_of (old := rowN .u64 64 4 0) (t' := 24) (by ((try rw [← Array.getElem?_eq_getElem]); repeat (first | exact heap_alloc_new _ _ | exact heap_alloc2_new _ _ _ | refine keep_alloc ?_ | refine keep_fr (by assumption) ?_))) (rowN_size _ _ _ _) (rowN_size _ _ _ _) (rowN_rowOne _ _ _ _)]; go_simp))
  refine hK.out _ _ ?_ (fun hHeld => ?_)
  · ((try dsimp only) <;> (first | exact ⟨⟨r0, r6⟩, F.drew⟩ | exact ⟨⟨keep_fr f5 hHeld.1.1, keep_fr f5 hHeld.1.2⟩, hHeld.2.trans' f5⟩ | exact ⟨⟨keep_alloc hHeld.1.1, keep_alloc hHeld.1.2⟩, hHeld.2.alloc _⟩ | exact ⟨⟨keep_row (by have := HG0.out; omega) hHeld.1.1, keep_row (by have := HG0.out; omega) hHeld.1.2⟩, hHeld.2.setRow (fun h => by have := HG0.out; omega) _⟩))
  clear hK K
  try (simp only [Act.put, List.setIfInBounds_toArray]; dsimp only [List.set_cons_zero, List.set_cons_succ])
  refine wpAnyH_ready (rs := [11]) (by kernel_rfl) (by simp) ?_
  refine AllReadyH.cons (o := ⟨_, _, _, _, _, _⟩) rfl (fun K hK => ?_) AllReadyH.nil
  go_simp
  (try (rw [rowIn_of (old := rowN .u64 64 4 0) (t' := 24) (by ((try rw [← Array.getElem?_eq_getElem]); repeat (first | exact heap_alloc_new _ _ | exact heap_alloc2_new _ _ _ | refine keep_row (by (try simp only [World.size_alloc]); omega) ?_ | refine keep_alloc ?_ | refine keep_fr (by assumption) ?_))) (rowN_size _ _ _ _) (rowN_size _ _ _ _) (rowN_rowOne _ _ _ _)]; go_simp))
  refine hK.out _ _ ?_ (fun hHeld => ?_)
  · ((try dsimp only) <;> (first | exact ⟨⟨r0, r6⟩, F.drew⟩ | exact ⟨⟨keep_fr f5 hHeld.1.1, keep_fr f5 hHeld.1.2⟩, hHeld.2.trans' f5⟩ | exact ⟨⟨keep_alloc hHeld.1.1, keep_alloc hHeld.1.2⟩, hHeld.2.alloc _⟩ | exact ⟨⟨keep_row (by have := HG0.out; omega) hHeld.1.1, keep_row (by have := HG0.out; omega) hHeld.1.2⟩, hHeld.2.setRow (fun h => by have := HG0.out; omega) _⟩))
  clear hK K
  try (simp only [Act.put, List.setIfInBounds_toArray]; dsimp only [List.set_cons_zero, List.set_cons_succ])
  refine wpAnyH_take (i := 12) (oi := ⟨_, _, _, _, _, _⟩) (v := ?_) rfl (by kernel_rfl) (by kernel_rfl) (by kernel_rfl) (fun _ _ _ h => h) (Or.inl ⟨by rfl, ?_⟩) (by assumption) ?_
  rotate_left
  · intro w hSw; (try dsimp only at hSw); go_simp; (try (with_reducible rfl)); done
  simp only [Act.put, List.setIfInBounds_toArray]; dsimp only [List.set_cons_zero, List.set_cons_succ]
  refine wpAnyH_done (by kernel_rfl) ?_ _
  refine NoPanic.normal ?_
  rotate_left
  go_simp
  refine hK.out _ _ ?_ (fun hHeld => ?_)
  · ((try dsimp only) <;> (first | exact ⟨⟨r0, r6⟩, F.drew⟩ | exact ⟨⟨keep_fr f5 hHeld.1.1, keep_fr f5 hHeld.1.2⟩, hHeld.2.trans' f5⟩ | exact ⟨⟨keep_alloc hHeld.1.1, keep_alloc hHeld.1.2⟩, hHeld.2.alloc _⟩ | exact ⟨⟨keep_row (by have := HG0.out; omega) hHeld.1.1, keep_row (by have := HG0.out; omega) hHeld.1.2⟩, hHeld.2.setRow (fun h => by have := HG0.out; omega) _⟩))
  clear hK K
  try (simp only [Act.put, List.setIfInBounds_toArray]; dsimp only [List.set_cons_zero, List.set_cons_succ])
  refine wpAnyH_ready (rs := [2]) (by kernel_rfl) (by simp) ?_
  refine AllReadyH.cons (o := ⟨_, _, _, _, _, _⟩) rfl (fun K hK => ?_) AllReadyH.nil
  go_simp
  (refine (HO.out _).mono ?_; rintro e w5 ⟨rfl, f5⟩; have z5 := f5.size; (try simp only [World.size_alloc, heap_drew'] at z5))
  refine hK.out _ _ ?_ (fun hHeld => ?_)
  · ((try dsimp only) <;> (first | exact ⟨⟨r0, r6⟩, F.drew⟩ | exact ⟨⟨keep_fr f5 hHeld.1.1, keep_fr f5 hHeld.1.2⟩, hHeld.2.trans' f5⟩ | exact ⟨⟨keep_alloc hHeld.1.1, keep_alloc hHeld.1.2⟩, hHeld.2.alloc _⟩ | exact ⟨⟨keep_row (by have := HG0.out; omega) hHeld.1.1, keep_row (by have := HG0.out; omega) hHeld.1.2⟩, hHeld.2.setRow (fun h => by have := HG0.out; omega) _⟩))
  clear hK K
  try (simp only [Act.put, List.setIfInBounds_toArray]; dsimp only [List.set_cons_zero, List.set_cons_succ])
  refine wpAnyH_ready (rs := [3]) (by kernel_rfl) (by simp) ?_
  refine AllReadyH.cons (o := ⟨_, _, _, _, _, _⟩) rfl (fun K hK => ?_) AllReadyH.nil
  go_simp
  (refine (HD.out _).mono ?_; rintro e w5 ⟨rfl, f5⟩; have z5 := f5.size; (try simp only [World.size_alloc, heap_drew'] at z5))
  refine hK.out _ _ ?_ (fun hHeld => ?_)
  · ((try dsimp only) <;> (first | exact ⟨⟨r0, r6⟩, F.drew⟩ | exact ⟨⟨keep_fr f5 hHeld.1.1, keep_fr f5 hHeld.1.2⟩, hHeld.2.trans' f5⟩ | exact ⟨⟨keep_alloc hHeld.1.1, keep_alloc hHeld.1.2⟩, hHeld.2.alloc _⟩ | exact ⟨⟨keep_row (by have := HG0.out; omega) hHeld.1.1, keep_row (by have := HG0.out; omega) hHeld.1.2⟩, hHeld.2.setRow (fun h => by have := HG0.out; omega) _⟩))
  clear hK K
  try (simp only [Act.put, List.setIfInBounds_toArray]; dsimp only [List.set_cons_zero, List.set_cons_succ])
  refine wpAnyH_take (i := 4) (oi := ⟨_, _, _, _, _, _⟩) (v := ?_) rfl (by kernel_rfl) (by kernel_rfl) (by kernel_rfl) (fun _ _ _ h => h) (Or.inl ⟨by rfl, ?_⟩) (by assumption) ?_
  rotate_left
  · intro w hSw; (try dsimp only at hSw); go_simp; (try (with_reducible rfl)); done
  simp only [Act.put, List.setIfInBounds_toArray]; dsimp only [List.set_cons_zero, List.set_cons_succ]
  refine wpAnyH_take (i := 5) (oi := ⟨_, _, _, _, _, _⟩) (v := ?_) rfl (by kernel_rfl) (by kernel_rfl) (by kernel_rfl) (fun _ _ _ h => h) (Or.inl ⟨by rfl, ?_⟩) (by assumption) ?_
  rotate_left
  · intro w hSw; (try dsimp only at hSw); go_simp; (try (with_reducible rfl)); done
  simp only [Act.put, List.setIfInBounds_toArray]; dsimp only [List.set_cons_zero, List.set_cons_succ]
  refine wpAnyH_take (i := 6) (oi := ⟨_, _, _, _, _, _⟩) (v := ?_) rfl (by kernel_rfl) (by kernel_rfl) (by kernel_rfl) (fun _ _ _ h => h) (Or.inl ⟨by rfl, ?_⟩) (by assumption) ?_
  rotate_left
  · intro w hSw; (try dsimp only at hSw); go_simp; (try (with_reducible rfl)); done
  simp only [Act.put, List.setIfInBounds_toArray]; dsimp only [List.set_cons_zero, List.set_cons_succ]
  refine wpAnyH_take (i := 7) (oi := ⟨_, _, _, _, _, _⟩) (v := ?_) rfl (by kernel_rfl) (by kernel_rfl) (by kernel_rfl) (fun _ _ _ h => h) (Or.inl ⟨by rfl, ?_⟩) (by assumption) ?_
  rotate_left
  · intro w hSw; (try dsimp only at hSw); go_simp; (try (with_reducible rfl)); done
  simp only [Act.put, List.setIfInBounds_toArray]; dsimp only [List.set_cons_zero, List.set_cons_succ]
  refine wpAnyH_ready (rs := [10]) (by kernel_rfl) (by simp) ?_
  refine AllReadyH.cons (o := ⟨_, _, _, _, _, _⟩) rfl (fun K hK => ?_) AllReadyH.nil
  go_simp
  (try (rw [rowIn_of (old := rowN .u64 64 4 0) (t' := 24) (by ((try rw [← Array.getElem?_eq_getElem]); repeat (first | exact heap_alloc_new _ _ | exact heap_alloc2_new _ _ _ | refine keep_alloc ?_ | refine keep_fr (by assumption) ?_))) (rowN_size _ _ _ _) (rowN_size _ _ _ _) (rowN_rowOne _ _ _ _)]; go_simp))
  refine hK.out _ _ ?_ (fun hHeld => ?_)
  · ((try dsimp only) <;> (first | exact ⟨⟨r0, r6⟩, F.drew⟩ | exact ⟨⟨keep_fr f5 hHeld.1.1, keep_fr f5 hHeld.1.2⟩, hHeld.2.trans' f5⟩ | exact ⟨⟨keep_alloc hHeld.1.1, keep_alloc hHeld.1.2⟩, hHeld.2.alloc _⟩ | exact ⟨⟨keep_row (by have := HG0.out; omega) hHeld.1.1, keep_row (by have := HG0.out; omega) hHeld.1.2⟩, hHeld.2.setRow (fun h => by have := HG0.out; omega) _⟩))
  clear hK K
  try (simp only [Act.put, List.setIfInBounds_toArray]; dsimp only [List.set_cons_zero, List.set_cons_succ])
  refine wpAnyH_ready (rs := [11]) (by kernel_rfl) (by simp) ?_
  refine AllReadyH.cons (o := ⟨_, _, _, _, _, _⟩) rfl (fun K hK => ?_) AllReadyH.nil
  go_simp
  (try (rw [rowIn_of (old := rowN .u64 64 4 0) (t' := 24) (by ((try rw [← Array.getElem?_eq_getElem]); repeat (first | exact heap_alloc_new _ _ | exact heap_alloc2_new _ _ _ | refine keep_row (by (try simp only [World.size_alloc]); omega) ?_ | refine keep_alloc ?_ | refine keep_fr (by assumption) ?_))) (rowN_size _ _ _ _) (rowN_size _ _ _ _) (rowN_rowOne _ _ _ _)]; go_simp))
  refine hK.out _ _ ?_ (fun hHeld => ?_)
  · ((try dsimp only) <;> (first | exact ⟨⟨r0, r6⟩, F.drew⟩ | exact ⟨⟨keep_fr f5 hHeld.1.1, keep_fr f5 hHeld.1.2⟩, hHeld.2.trans' f5⟩ | exact ⟨⟨keep_alloc hHeld.1.1, keep_alloc hHeld.1.2⟩, hHeld.2.alloc _⟩ | exact ⟨⟨keep_row (by have := HG0.out; omega) hHeld.1.1, keep_row (by have := HG0.out; omega) hHeld.1.2⟩, hHeld.2.setRow (fun h => by have := HG0.out; omega) _⟩))
  clear hK K
  try (simp only [Act.put, List.setIfInBounds_toArray]; dsimp only [List.set_cons_zero, List.set_cons_succ])
  refine wpAnyH_take (i := 12) (oi := ⟨_, _, _, _, _, _⟩) (v := ?_) rfl (by kernel_rfl) (by kernel_rfl) (by kernel_rfl) (fun _ _ _ h => h) (Or.inl ⟨by rfl, ?_⟩) (by assumption) ?_
  rotate_left
  · intro w hSw; (try dsimp only at hSw); go_simp; (try (with_reducible rfl)); done
  simp only [Act.put, List.setIfInBounds_toArray]; dsimp only [List.set_cons_zero, List.set_cons_succ]
  refine wpAnyH_done (by kernel_rfl) ?_ _
  refine NoPanic.normal ?_
  rotate_left
  go_simp
  refine hK.out _ _ ?_ (fun hHeld => ?_)
  · ((try dsimp only) <;> (first | exact ⟨⟨r0, r6⟩, F.drew⟩ | exact ⟨⟨keep_fr f5 hHeld.1.1, keep_fr f5 hHeld.1.2⟩, hHeld.2.trans' f5⟩ | exact ⟨⟨keep_alloc hHeld.1.1, keep_alloc hHeld.1.2⟩, hHeld.2.alloc _⟩ | exact ⟨⟨keep_row (by have := HG0.out; omega) hHeld.1.1, keep_row (by have := HG0.out; omega) hHeld.1.2⟩, hHeld.2.setRow (fun h => by have := HG0.out; omega) _⟩))
  clear hK K
  try (simp only [Act.put, List.setIfInBounds_toArray]; dsimp only [List.set_cons_zero, List.set_cons_succ])
  refine wpAnyH_ready (rs := [2, 8]) (by kernel_rfl) (by simp) ?_
  refine AllReadyH.cons (o := ⟨_, _, _, _, _, _⟩) rfl (fun K hK => ?_) (AllReadyH.cons (o := ⟨_, _, _, _, _, _⟩) rfl (fun K hK => ?_) AllReadyH.nil)
  go_simp
  (refine (HO.out _).mono ?_; rintro e w5 ⟨rfl, f5⟩; have z5 := f5.size; (try simp only [World.size_alloc, heap_drew'] at z5))
  refine hK.out _ _ ?_ (fun hHeld => ?_)
  · ((try dsimp only) <;> (first | exact ⟨⟨r0, r6⟩, F.drew⟩ | exact ⟨⟨keep_fr f5 hHeld.1.1, keep_fr f5 hHeld.1.2⟩, hHeld.2.trans' f5⟩ | exact ⟨⟨keep_alloc hHeld.1.1, keep_alloc hHeld.1.2⟩, hHeld.2.alloc _⟩ | exact ⟨⟨keep_row (by have := HG0.out; omega) hHeld.1.1, keep_row (by have := HG0.out; omega) hHeld.1.2⟩, hHeld.2.setRow (fun h => by have := HG0.out; omega) _⟩))
  clear hK K
  try (simp only [Act.put, List.setIfInBounds_toArray]; dsimp only [List.set_cons_zero, List.set_cons_succ])
  refine wpAnyH_ready (rs := [3, 8]) (by kernel_rfl) (by simp) ?_
  refine AllReadyH.cons (o := ⟨_, _, _, _, _, _⟩) rfl (fun K hK => ?_) (AllReadyH.cons (o := ⟨_, _, _, _, _, _⟩) rfl (fun K hK => ?_) AllReadyH.nil)
  go_simp
  (refine (HD.out _).mono ?_; rintro e w5 ⟨rfl, f5⟩; have z5 := f5.size; (try simp only [World.size_alloc, heap_drew'] at z5))
  refine hK.out _ _ ?_ (fun hHeld => ?_)
  · ((try dsimp only) <;> (first | exact ⟨⟨r0, r6⟩, F.drew⟩ | exact ⟨⟨keep_fr f5 hHeld.1.1, keep_fr f5 hHeld.1.2⟩, hHeld.2.trans' f5⟩ | exact ⟨⟨keep_alloc hHeld.1.1, keep_alloc hHeld.1.2⟩, hHeld.2.alloc _⟩ | exact ⟨⟨keep_row (by have := HG0.out; omega) hHeld.1.1, keep_row (by have := HG0.out; omega) hHeld.1.2⟩, hHeld.2.setRow (fun h => by have := HG0.out; omega) _⟩))
  clear hK K
  try (simp only [Act.put, List.setIfInBounds_toArray]; dsimp only [List.set_cons_zero, List.set_cons_succ])
  refine wpAnyH_take (i := 4) (oi := ⟨_, _, _, _, _, _⟩) (v := ?_) rfl (by kernel_rfl) (by kernel_rfl) (by kernel_rfl) (fun _ _ _ h => h) (Or.inl ⟨by rfl, ?_⟩) (by assumption) ?_
  rotate_left
  · intro w hSw; (try dsimp only at hSw); go_simp; (try (with_reducible rfl)); done
  simp only [Act.put, List.setIfInBounds_toArray]; dsimp only [List.set_cons_zero, List.set_cons_succ]
  refine wpAnyH_take (i := 5) (oi := ⟨_, _, _, _, _, _⟩) (v := ?_) rfl (by kernel_rfl) (by kernel_rfl) (by kernel_rfl) (fun _ _ _ h => h) (Or.inl ⟨by rfl, ?_⟩) (by assumption) ?_
  rotate_left
  · intro w hSw; (try dsimp only at hSw); go_simp; (try (with_reducible rfl)); done
  simp only [Act.put, List.setIfInBounds_toArray]; dsimp only [List.set_cons_zero, List.set_cons_succ]
  refine wpAnyH_take (i := 6) (oi := ⟨_, _, _, _, _, _⟩) (v := ?_) rfl (by kernel_rfl) (by kernel_rfl) (by kernel_rfl) (fun _ _ _ h => h) (Or.inl ⟨by rfl, ?_⟩) (by assumption) ?_
  rotate_left
  · intro w hSw; (try dsimp only at hSw); go_simp; (try (with_reducible rfl)); done
  simp only [Act.put, List.setIfInBounds_toArray]; dsimp only [List.set_cons_zero, List.set_cons_succ]
  refine wpAnyH_take (i := 7) (oi := ⟨_, _, _, _, _, _⟩) (v := ?_) rfl (by kernel_rfl) (by kernel_rfl) (by kernel_rfl) (fun _ _ _ h => h) (Or.inl ⟨by rfl, ?_⟩) (by assumption) ?_
  rotate_left
  · intro w hSw; (try dsimp only at hSw); go_simp; (try (with_reducible rfl)); done
  simp only [Act.put, List.setIfInBounds_toArray]; dsimp only [List.set_cons_zero, List.set_cons_succ]
  refine wpAnyH_ready (rs := [8]) (by kernel_rfl) (by simp) ?_
  refine AllReadyH.cons (o := ⟨_, _, _, _, _, _⟩) rfl (fun K hK => ?_) AllReadyH.nil
  go_simp
  refine hK.out _ _ ?_ (fun hHeld => ?_)
  · ((try dsimp only) <;> (first | exact ⟨⟨r0, r6⟩, F.drew⟩ | exact ⟨⟨keep_fr f5 hHeld.1.1, keep_fr f5 hHeld.1.2⟩, hHeld.2.trans' f5⟩ | exact ⟨⟨keep_alloc hHeld.1.1, keep_alloc hHeld.1.2⟩, hHeld.2.alloc _⟩ | exact ⟨⟨keep_row (by have := HG0.out; omega) hHeld.1.1, keep_row (by have := HG0.out; omega) hHeld.1.2⟩, hHeld.2.setRow (fun h => by have := HG0.out; omega) _⟩))
  clear hK K
  try (simp only [Act.put, List.setIfInBounds_toArray]; dsimp only [List.set_cons_zero, List.set_cons_succ])
  refine wpAnyH_ready (rs := [10]) (by kernel_rfl) (by simp) ?_
  refine AllReadyH.cons (o := ⟨_, _, _, _, _, _⟩) rfl (fun K hK => ?_) AllReadyH.nil
  go_simp
  (try (rw [rowIn_of (old := rowN .u64 64 4 0) (t' := 24) (by ((try rw [← Array.getElem?_eq_getElem]); repeat (first | exact heap_alloc_new _ _ | exact heap_alloc2_new _ _ _ | refine keep_alloc ?_ | refine keep_fr (by assumption) ?_))) (rowN_size _ _ _ _) (rowN_size _ _ _ _) (rowN_rowOne _ _ _ _)]; go_simp))
  refine hK.out _ _ ?_ (fun hHeld => ?_)
  · ((try dsimp only) <;> (first | exact ⟨⟨r0, r6⟩, F.drew⟩ | exact ⟨⟨keep_fr f5 hHeld.1.1, keep_fr f5 hHeld.1.2⟩, hHeld.2.trans' f5⟩ | exact ⟨⟨keep_alloc hHeld.1.1, keep_alloc hHeld.1.2⟩, hHeld.2.alloc _⟩ | exact ⟨⟨keep_row (by have := HG0.out; omega) hHeld.1.1, keep_row (by have := HG0.out; omega) hHeld.1.2⟩, hHeld.2.setRow (fun h => by have := HG0.out; omega) _⟩))
  clear hK K
  try (simp only [Act.put, List.setIfInBounds_toArray]; dsimp only [List.set_cons_zero, List.set_cons_succ])
  refine wpAnyH_ready (rs := [11]) (by kernel_rfl) (by simp) ?_
  refine AllReadyH.cons (o := ⟨_, _, _, _, _, _⟩) rfl (fun K hK => ?_) AllReadyH.nil
  go_simp
  (try (rw [rowIn_of (old := rowN .u64 64 4 0) (t' := 24) (by ((try rw [← Array.getElem?_eq_getElem]); repeat (first | exact heap_alloc_new _ _ | exact heap_alloc2_new _ _ _ | refine keep_row (by (try simp only [World.size_alloc]); omega) ?_ | refine keep_alloc ?_ | refine keep_fr (by assumption) ?_))) (rowN_size _ _ _ _) (rowN_size _ _ _ _) (rowN_rowOne _ _ _ _)]; go_simp))
  refine hK.out _ _ ?_ (fun hHeld => ?_)
  · ((try dsimp only) <;> (first | exact ⟨⟨r0, r6⟩, F.drew⟩ | exact ⟨⟨keep_fr f5 hHeld.1.1, keep_fr f5 hHeld.1.2⟩, hHeld.2.trans' f5⟩ | exact ⟨⟨keep_alloc hHeld.1.1, keep_alloc hHeld.1.2⟩, hHeld.2.alloc _⟩ | exact ⟨⟨keep_row (by have := HG0.out; omega) hHeld.1.1, keep_row (by have := HG0.out; omega) hHeld.1.2⟩, hHeld.2.setRow (fun h => by have := HG0.out; omega) _⟩))
  clear hK K
  try (simp only [Act.put, List.setIfInBounds_toArray]; dsimp only [List.set_cons_zero, List.set_cons_succ])
  refine wpAnyH_take (i := 12) (oi := ⟨_, _, _, _, _, _⟩) (v := ?_) rfl (by kernel_rfl) (by kernel_rfl) (by kernel_rfl) (fun _ _ _ h => h) (Or.inl ⟨by rfl, ?_⟩) (by assumption) ?_
  rotate_left
  · intro w hSw; (try dsimp only at hSw); go_simp; (try (with_reducible rfl)); done
  simp only [Act.put, List.setIfInBounds_toArray]; dsimp only [List.set_cons_zero, List.set_cons_succ]
  refine wpAnyH_done (by kernel_rfl) ?_ _
  refine NoPanic.normal ?_
  rotate_left
  go_simp
  refine hK.out _ _ ?_ (fun hHeld => ?_)
  · ((try dsimp only) <;> (first | exact ⟨⟨r0, r6⟩, F.drew⟩ | exact ⟨⟨keep_fr f5 hHeld.1.1, keep_fr f5 hHeld.1.2⟩, hHeld.2.trans' f5⟩ | exact ⟨⟨keep_alloc hHeld.1.1, keep_alloc hHeld.1.2⟩, hHeld.2.alloc _⟩ | exact ⟨⟨keep_row (by have := HG0.out; omega) hHeld.1.1, keep_row (by have := HG0.out; omega) hHeld.1.2⟩, hHeld.2.setRow (fun h => by have := HG0.out; omega) _⟩))
  clear hK K
  try (simp only [Act.put, List.setIfInBounds_toArray]; dsimp only [List.set_cons_zero, List.set_cons_succ])
  refine wpAnyH_ready (rs := [3]) (by kernel_rfl) (by simp) ?_
  refine AllReadyH.cons (o := ⟨_, _, _, _, _, _⟩) rfl (fun K hK => ?_) AllReadyH.nil
  go_simp
  (refine (HD.out _).mono ?_; rintro e w5 ⟨rfl, f5⟩; have z5 := f5.size; (try simp only [World.size_alloc, heap_drew'] at z5))
  refine hK.out _ _ ?_ (fun hHeld => ?_)
  · ((try dsimp only) <;> (first | exact ⟨⟨r0, r6⟩, F.drew⟩ | exact ⟨⟨keep_fr f5 hHeld.1.1, keep_fr f5 hHeld.1.2⟩, hHeld.2.trans' f5⟩ | exact ⟨⟨keep_alloc hHeld.1.1, keep_alloc hHeld.1.2⟩, hHeld.2.alloc _⟩ | exact ⟨⟨keep_row (by have := HG0.out; omega) hHeld.1.1, keep_row (by have := HG0.out; omega) hHeld.1.2⟩, hHeld.2.setRow (fun h => by have := HG0.out; omega) _⟩))
  clear hK K
  try (simp only [Act.put, List.setIfInBounds_toArray]; dsimp only [List.set_cons_zero, List.set_cons_succ])
  refine wpAnyH_take (i := 4) (oi := ⟨_, _, _, _, _, _⟩) (v := ?_) rfl (by kernel_rfl) (by kernel_rfl) (by kernel_rfl) (fun _ _ _ h => h) (Or.inl ⟨by rfl, ?_⟩) (by assumption) ?_
  rotate_left
  · intro w hSw; (try dsimp only at hSw); go_simp; (try (with_reducible rfl)); done
  simp only [Act.put, List.setIfInBounds_toArray]; dsimp only [List.set_cons_zero, List.set_cons_succ]
  refine wpAnyH_take (i := 5) (oi := ⟨_, _, _, _, _, _⟩) (v := ?_) rfl (by kernel_rfl) (by kernel_rfl) (by kernel_rfl) (fun _ _ _ h => h) (Or.inl ⟨by rfl, ?_⟩) (by assumption) ?_
  rotate_left
  · intro w hSw; (try dsimp only at hSw); go_simp; (try (with_reducible rfl)); done
  simp only [Act.put, List.setIfInBounds_toArray]; dsimp only [List.set_cons_zero, List.set_cons_succ]
  refine wpAnyH_take (i := 6) (oi := ⟨_, _, _, _, _, _⟩) (v := ?_) rfl (by kernel_rfl) (by kernel_rfl) (by kernel_rfl) (fun _ _ _ h => h) (Or.inl ⟨by rfl, ?_⟩) (by assumption) ?_
  rotate_left
  · intro w hSw; (try dsimp only at hSw); go_simp; (try (with_reducible rfl)); done
  simp only [Act.put, List.setIfInBounds_toArray]; dsimp only [List.set_cons_zero, List.set_cons_succ]
  refine wpAnyH_take (i := 7) (oi := ⟨_, _, _, _, _, _⟩) (v := ?_) rfl (by kernel_rfl) (by kernel_rfl) (by kernel_rfl) (fun _ _ _ h => h) (Or.inl ⟨by rfl, ?_⟩) (by assumption) ?_
  rotate_left
  · intro w hSw; (try dsimp only at hSw); go_simp; (try (with_reducible rfl)); done
  simp only [Act.put, List.setIfInBounds_toArray]; dsimp only [List.set_cons_zero, List.set_cons_succ]
  refine wpAnyH_ready (rs := [10]) (by kernel_rfl) (by simp) ?_
  refine AllReadyH.cons (o := ⟨_, _, _, _, _, _⟩) rfl (fun K hK => ?_) AllReadyH.nil
  go_simp
  (try (rw [rowIn_of (old := rowN .u64 64 4 0) (t' := 24) (by ((try rw [← Array.getElem?_eq_getElem]); repeat (first | exact heap_alloc_new _ _ | exact heap_alloc2_new _ _ _ | refine keep_alloc ?_ | refine keep_fr (by assumption) ?_))) (rowN_size _ _ _ _) (rowN_size _ _ _ _) (rowN_rowOne _ _ _ _)]; go_simp))
  refine hK.out _ _ ?_ (fun hHeld => ?_)
  · ((try dsimp only) <;> (first | exact ⟨⟨r0, r6⟩, F.drew⟩ | exact ⟨⟨keep_fr f5 hHeld.1.1, keep_fr f5 hHeld.1.2⟩, hHeld.2.trans' f5⟩ | exact ⟨⟨keep_alloc hHeld.1.1, keep_alloc hHeld.1.2⟩, hHeld.2.alloc _⟩ | exact ⟨⟨keep_row (by have := HG0.out; omega) hHeld.1.1, keep_row (by have := HG0.out; omega) hHeld.1.2⟩, hHeld.2.setRow (fun h => by have := HG0.out; omega) _⟩))
  clear hK K
  try (simp only [Act.put, List.setIfInBounds_toArray]; dsimp only [List.set_cons_zero, List.set_cons_succ])
  refine wpAnyH_ready (rs := [11]) (by kernel_rfl) (by simp) ?_
  refine AllReadyH.cons (o := ⟨_, _, _, _, _, _⟩) rfl (fun K hK => ?_) AllReadyH.nil
  go_simp
  (try (rw [rowIn_of (old := rowN .u64 64 4 0) (t' := 24) (by ((try rw [← Array.getElem?_eq_getElem]); repeat (first | exact heap_alloc_new _ _ | exact heap_alloc2_new _ _ _ | refine keep_row (by (try simp only [World.size_alloc]); omega) ?_ | refine keep_alloc ?_ | refine keep_fr (by assumption) ?_))) (rowN_size _ _ _ _) (rowN_size _ _ _ _) (rowN_rowOne _ _ _ _)]; go_simp))
  refine hK.out _ _ ?_ (fun hHeld => ?_)
  · ((try dsimp only) <;> (first | exact ⟨⟨r0, r6⟩, F.drew⟩ | exact ⟨⟨keep_fr f5 hHeld.1.1, keep_fr f5 hHeld.1.2⟩, hHeld.2.trans' f5⟩ | exact ⟨⟨keep_alloc hHeld.1.1, keep_alloc hHeld.1.2⟩, hHeld.2.alloc _⟩ | exact ⟨⟨keep_row (by have := HG0.out; omega) hHeld.1.1, keep_row (by have := HG0.out; omega) hHeld.1.2⟩, hHeld.2.setRow (fun h => by have := HG0.out; omega) _⟩))
  clear hK K
  try (simp only [Act.put, List.setIfInBounds_toArray]; dsimp only [List.set_cons_zero, List.set_cons_succ])
  refine wpAnyH_take (i := 12) (oi := ⟨_, _, _, _, _, _⟩) (v := ?_) rfl (by kernel_rfl) (by kernel_rfl) (by kernel_rfl) (fun _ _ _ h => h) (Or.inl ⟨by rfl, ?_⟩) (by assumption) ?_
  rotate_left
  · intro w hSw; (try dsimp only at hSw); go_simp; (try (with_reducible rfl)); done
  simp only [Act.put, List.setIfInBounds_toArray]; dsimp only [List.set_cons_zero, List.set_cons_succ]
  refine wpAnyH_done (by kernel_rfl) ?_ _
  refine NoPanic.normal ?_
  rotate_left
  go_simp
  refine hK.out _ _ ?_ (fun hHeld => ?_)
  · ((try dsimp only) <;> (first | exact ⟨⟨r0, r6⟩, F.drew⟩ | exact ⟨⟨keep_fr f5 hHeld.1.1, keep_fr f5 hHeld.1.2⟩, hHeld.2.trans' f5⟩ | exact ⟨⟨keep_alloc hHeld.1.1, keep_alloc hHeld.1.2⟩, hHeld.2.alloc _⟩ | exact ⟨⟨keep_row (by have := HG0.out; omega) hHeld.1.1, keep_row (by have := HG0.out; omega) hHeld.1.2⟩, hHeld.2.setRow (fun h => by have := HG0.out; omega) _⟩))
  clear hK K
  try (simp only [Act.put, List.setIfInBounds_toArray]; dsimp only [List.set_cons_zero, List.set_cons_succ])
  refine wpAnyH_ready (rs := [2]) (by kernel_rfl) (by simp) ?_
  refine AllReadyH.cons (o := ⟨_, _, _, _, _, _⟩) rfl (fun K hK => ?_) AllReadyH.nil
  go_simp
  (refine (HO.out _).mono ?_; rintro e w5 ⟨rfl, f5⟩; have z5 := f5.size; (try simp only [World.size_alloc, heap_drew'] at z5))
  refine hK.out _ _ ?_ (fun hHeld => ?_)
  · ((try dsimp only) <;> (first | exact ⟨⟨r0, r6⟩, F.drew⟩ | exact ⟨⟨keep_fr f5 hHeld.1.1, keep_fr f5 hHeld.1.2⟩, hHeld.2.trans' f5⟩ | exact ⟨⟨keep_alloc hHeld.1.1, keep_alloc hHeld.1.2⟩, hHeld.2.alloc _⟩ | exact ⟨⟨keep_row (by have := HG0.out; omega) hHeld.1.1, keep_row (by have := HG0.out; omega) hHeld.1.2⟩, hHeld.2.setRow (fun h => by have := HG0.out; omega) _⟩))
  clear hK K
  try (simp only [Act.put, List.setIfInBounds_toArray]; dsimp only [List.set_cons_zero, List.set_cons_succ])
  refine wpAnyH_ready (rs := [3]) (by kernel_rfl) (by simp) ?_
  refine AllReadyH.cons (o := ⟨_, _, _, _, _, _⟩) rfl (fun K hK => ?_) AllReadyH.nil
  go_simp
  (refine (HD.out _).mono ?_; rintro e w5 ⟨rfl, f5⟩; have z5 := f5.size; (try simp only [World.size_alloc, heap_drew'] at z5))
  refine hK.out _ _ ?_ (fun hHeld => ?_)
  · ((try dsimp only) <;> (first | exact ⟨⟨r0, r6⟩, F.drew⟩ | exact ⟨⟨keep_fr f5 hHeld.1.1, keep_fr f5 hHeld.1.2⟩, hHeld.2.trans' f5⟩ | exact ⟨⟨keep_alloc hHeld.1.1, keep_alloc hHeld.1.2⟩, hHeld.2.alloc _⟩ | exact ⟨⟨keep_row (by have := HG0.out; omega) hHeld.1.1, keep_row (by have := HG0.out; omega) hHeld.1.2⟩, hHeld.2.setRow (fun h => by have := HG0.out; omega) _⟩))
  clear hK K
  try (simp only [Act.put, List.setIfInBounds_toArray]; dsimp only [List.set_cons_zero, List.set_cons_succ])
  refine wpAnyH_take (i := 4) (oi := ⟨_, _, _, _, _, _⟩) (v := ?_) rfl (by kernel_rfl) (by kernel_rfl) (by kernel_rfl) (fun _ _ _ h => h) (Or.inl ⟨by rfl, ?_⟩) (by assumption) ?_
  rotate_left
  · intro w hSw; (try dsimp only at hSw); go_simp; (try (with_reducible rfl)); done
  simp only [Act.put, List.setIfInBounds_toArray]; dsimp only [List.set_cons_zero, List.set_cons_succ]
  refine wpAnyH_take (i := 5) (oi := ⟨_, _, _, _, _, _⟩) (v := ?_) rfl (by kernel_rfl) (by kernel_rfl) (by kernel_rfl) (fun _ _ _ h => h) (Or.inl ⟨by rfl, ?_⟩) (by assumption) ?_
  rotate_left
  · intro w hSw; (try dsimp only at hSw); go_simp; (try (with_reducible rfl)); done
  simp only [Act.put, List.setIfInBounds_toArray]; dsimp only [List.set_cons_zero, List.set_cons_succ]
  refine wpAnyH_take (i := 6) (oi := ⟨_, _, _, _, _, _⟩) (v := ?_) rfl (by kernel_rfl) (by kernel_rfl) (by kernel_rfl) (fun _ _ _ h => h) (Or.inl ⟨by rfl, ?_⟩) (by assumption) ?_
  rotate_left
  · intro w hSw; (try dsimp only at hSw); go_simp; (try (with_reducible rfl)); done
  simp only [Act.put, List.setIfInBounds_toArray]; dsimp only [List.set_cons_zero, List.set_cons_succ]
  refine wpAnyH_take (i := 7) (oi := ⟨_, _, _, _, _, _⟩) (v := ?_) rfl (by kernel_rfl) (by kernel_rfl) (by kernel_rfl) (fun _ _ _ h => h) (Or.inl ⟨by rfl, ?_⟩) (by assumption) ?_
  rotate_left
  · intro w hSw; (try dsimp only at hSw); go_simp; (try (with_reducible rfl)); done
  simp only [Act.put, List.setIfInBounds_toArray]; dsimp only [List.set_cons_zero, List.set_cons_succ]
  refine wpAnyH_ready (rs := [10]) (by kernel_rfl) (by simp) ?_
  refine AllReadyH.cons (o := ⟨_, _, _, _, _, _⟩) rfl (fun K hK => ?_) AllReadyH.nil
  go_simp
  (try (rw [rowIn_of (old := rowN .u64 64 4 0) (t' := 24) (by ((try rw [← Array.getElem?_eq_getElem]); repeat (first | exact heap_alloc_new _ _ | exact heap_alloc2_new _ _ _ | refine keep_alloc ?_ | refine keep_fr (by assumption) ?_))) (rowN_size _ _ _ _) (rowN_size _ _ _ _) (rowN_rowOne _ _ _ _)]; go_simp))
  refine hK.out _ _ ?_ (fun hHeld => ?_)
  · ((try dsimp only) <;> (first | exact ⟨⟨r0, r6⟩, F.drew⟩ | exact ⟨⟨keep_fr f5 hHeld.1.1, keep_fr f5 hHeld.1.2⟩, hHeld.2.trans' f5⟩ | exact ⟨⟨keep_alloc hHeld.1.1, keep_alloc hHeld.1.2⟩, hHeld.2.alloc _⟩ | exact ⟨⟨keep_row (by have := HG0.out; omega) hHeld.1.1, keep_row (by have := HG0.out; omega) hHeld.1.2⟩, hHeld.2.setRow (fun h => by have := HG0.out; omega) _⟩))
  clear hK K
  try (simp only [Act.put, List.setIfInBounds_toArray]; dsimp only [List.set_cons_zero, List.set_cons_succ])
  refine wpAnyH_ready (rs := [11]) (by kernel_rfl) (by simp) ?_
  refine AllReadyH.cons (o := ⟨_, _, _, _, _, _⟩) rfl (fun K hK => ?_) AllReadyH.nil
  go_simp
  (try (rw [rowIn_of (old := rowN .u64 64 4 0) (t' := 24) (by ((try rw [← Array.getElem?_eq_getElem]); repeat (first | exact heap_alloc_new _ _ | exact heap_alloc2_new _ _ _ | refine keep_row (by (try simp only [World.size_alloc]); omega) ?_ | refine keep_alloc ?_ | refine keep_fr (by assumption) ?_))) (rowN_size _ _ _ _) (rowN_size _ _ _ _) (rowN_rowOne _ _ _ _)]; go_simp))
  refine hK.out _ _ ?_ (fun hHeld => ?_)
  · ((try dsimp only) <;> (first | exact ⟨⟨r0, r6⟩, F.drew⟩ | exact ⟨⟨keep_fr f5 hHeld.1.1, keep_fr f5 hHeld.1.2⟩, hHeld.2.trans' f5⟩ | exact ⟨⟨keep_alloc hHeld.1.1, keep_alloc hHeld.1.2⟩, hHeld.2.alloc _⟩ | exact ⟨⟨keep_row (by have := HG0.out; omega) hHeld.1.1, keep_row (by have := HG0.out; omega) hHeld.1.2⟩, hHeld.2.setRow (fun h => by have := HG0.out; omega) _⟩))
  clear hK K
  try (simp only [Act.put, List.setIfInBounds_toArray]; dsimp only [List.set_cons_zero, List.set_cons_succ])
  refine wpAnyH_take (i := 12) (oi := ⟨_, _, _, _, _, _⟩) (v := ?_) rfl (by kernel_rfl) (by kernel_rfl) (by kernel_rfl) (fun _ _ _ h => h) (Or.inl ⟨by rfl, ?_⟩) (by assumption) ?_
  rotate_left
  · intro w hSw; (try dsimp only at hSw); go_simp; (try (with_reducible rfl)); done
  simp only [Act.put, List.setIfInBounds_toArray]; dsimp only [List.set_cons_zero, List.set_cons_succ]
  refine wpAnyH_done (by kernel_rfl) ?_ _
  refine NoPanic.normal ?_
  rotate_left
  all_goals
    refine hK.out ⟨⟨_, _, rfl, rfl, ?_, ?_⟩, hHeld.1, hHeld.2⟩
    · refine keep_row (by (try simp only [World.size_alloc]); omega) (new_row (z := rowN .u64 64 4 0) (t := 24) (f := (0, 0)) ?_)
      repeat (first | exact heap_alloc_new _ _ | exact heap_alloc2_new _ _ _ | refine keep_alloc ?_ | refine keep_fr (by assumption) ?_)
    · refine new_row (z := rowN .u64 64 4 0) (t := 24) (f := (0, 0)) (keep_row (by (try simp only [World.size_alloc]); omega) ?_)
      repeat (first | exact heap_alloc_new _ _ | exact heap_alloc2_new _ _ _ | refine keep_alloc ?_ | refine keep_fr (by assumption) ?_)

set_option maxRecDepth 100000 in
set_option maxHeartbeats 4000000 in
theorem times_core (t up by' Q R M X P r2' S : Nat) (bm bo o : Bool) (ho : (bm || bo) = o)
    (HO : Hid (∀ w, Calls Try.prog 25 #[.int .u64 (by' : Int)] w fun o w' => o = .returned (.agg (rowN .u64 64 4 by')) ∧ Fr F0 w w'))
    (HD : Hid (∀ w, Calls Try.prog 40 #[.agg (rowN .u64 64 4 t), .agg (rowN .u64 64 4 by')] w fun o w' => o = .returned (.tuple #[.agg (rowN .u64 64 4 Q), .agg (rowN .u64 64 4 R), .int .i64 0]) ∧ Fr F0 w w'))
    (HU : Hid (∀ w, Calls Try.prog 36 #[.agg (rowN .u64 64 4 R)] w fun o w' => o = .returned (.tuple #[.int .u64 (R : Int), .bool true]) ∧ Fr F0 w w'))
    (HM : Hid (∀ w, Calls Try.prog 54 #[.agg (rowN .u64 64 4 Q), .int .u64 (up : Int)] w fun o w' => o = .returned (.tuple #[.agg (rowN .u64 64 4 M), .bool bm]) ∧ Fr F0 w w'))
    (HP : Hid (∀ w, Calls Try.prog 55 #[.int .u64 (R : Int), .int .u64 (up : Int)] w fun o w' => o = .returned (.agg (rowN .u64 64 4 X)) ∧ Fr F0 w w'))
    (HE : Hid (∀ w, Calls Try.prog 40 #[.agg (rowN .u64 64 4 X), .agg (rowN .u64 64 4 by')] w fun o w' => o = .returned (.tuple #[.agg (rowN .u64 64 4 P), .agg (rowN .u64 64 4 r2'), .int .i64 0]) ∧ Fr F0 w w'))
    (HA : Hid (∀ w, Calls Try.prog 39 #[.agg (rowN .u64 64 4 M), .agg (rowN .u64 64 4 P)] w fun o w' => o = .returned (.tuple #[.agg (rowN .u64 64 4 S), .bool bo]) ∧ Fr F0 w w')) (w : World) :
    Calls Try.prog 44 #[.agg (rowN .u64 64 4 t), .int .u64 (up : Int), .int .u64 (by' : Int)] w fun e w' => e = .returned (.tuple #[.agg (rowN .u64 64 4 S), .bool o]) ∧ Fr F0 w w' := by
  have HO2 := Lib.hid ho
  clear ho
  go_enter Try.func44, Try.ntmps44
  go_upto_region 1 with fail
  obtain ⟨r0, r6⟩ := heap2 w (.cells (rowN .u64 64 4 t) 24) (.cells (rowN .u64 64 4 0) 24)
  have F := (((Fr.refl F0 w).alloc (.cells (rowN .u64 64 4 t) 24)).alloc (.cells (rowN .u64 64 4 0) 24))
  obtain ⟨W0, hW0⟩ : ∃ W, W = (w.alloc (.cells (rowN .u64 64 4 t) 24)).alloc (.cells (rowN .u64 64 4 0) 24) := ⟨_, rfl⟩
  rw [← hW0] at r0 r6 F
  refine wp_of_world W0 hW0 ?_
  clear hW0
  generalize hg6 : w.heap.size + 1 = g6 at *
  generalize hg0 : w.heap.size = g0 at *
  have HG := Lib.hid (show w.heap.size ≤ g6 by omega)
  clear hg0 hg6
  refine tm1 w W0 t by' Q R g0 g6 HO HD r0 r6 F (Lib.hid ?_)
  clear r0 r6 F
  rename_i w1
  rintro ⟨⟨p1, p2, rfl, rfl, r8, r9⟩, ⟨r0, r6⟩, F⟩
  clear r0
  go_wp2_with fail
  (with_reducible refine (HU.out _).mono ?_); rintro e w2 ⟨rfl, f⟩
  replace r6 := keep_fr f r6
  replace r8 := keep_fr f r8
  replace F := F.trans' f
  clear f r9
  go_wp2_with fail
  (with_reducible refine (HM.out _).mono ?_); rintro e w3 ⟨rfl, f⟩
  replace r6 := keep_fr f r6
  replace F := F.trans' f
  clear f r8
  go_upto_region 4 with fail
  obtain ⟨W4, hW4⟩ : ∃ W, W = (w3.alloc (.cells (rowN .u64 64 4 0) 24)).setRow w3.heap.size (rowN .u64 64 4 M) := ⟨_, rfl⟩
  have N := put_new w3 (rowN .u64 64 4 0) (rowN .u64 64 4 M) 24
  rw [← hW4] at N
  refine wp_of_world W4 hW4 ?_
  have r13 := N.new
  replace r6 := N.old r6
  replace F := F.trans' N.fr
  clear N hW4
  generalize w3.heap.size = g13 at *
  go_wp2_with fail
  (with_reducible refine (HP.out _).mono ?_); rintro e w5 ⟨rfl, f⟩
  replace r6 := keep_fr f r6
  replace r13 := keep_fr f r13
  replace F := F.trans' f
  clear f
  go_wp2_with fail
  (with_reducible refine (HO.out _).mono ?_); rintro e w6 ⟨rfl, f⟩
  replace r6 := keep_fr f r6
  replace r13 := keep_fr f r13
  replace F := F.trans' f
  clear f
  go_wp2_with fail
  (with_reducible refine (HE.out _).mono ?_); rintro e w7 ⟨rfl, f⟩
  replace r6 := keep_fr f r6
  replace r13 := keep_fr f r13
  replace F := F.trans' f
  clear f
  go_upto_region 5 with fail
  obtain ⟨W8, hW8⟩ : ∃ W, W = (((w7.alloc (.cells (rowN .u64 64 4 0) 24)).alloc (.cells (rowN .u64 64 4 0) 24)).setRow w7.heap.size (rowN .u64 64 4 P)).setRow (w7.heap.size + 1) (rowN .u64 64 4 r2') := ⟨_, rfl⟩
  refine wp_of_world W8 hW8 ?_
  have hs := F.size
  have hl6 := (Array.getElem?_eq_some_iff.1 r6).1
  have hl13 := (Array.getElem?_eq_some_iff.1 r13).1
  replace F : Fr F0 w W8 := by rw [hW8]; exact ((F.alloc _).alloc _ |>.setRow (fun h => by omega) _).setRow (fun h => by omega) _
  replace r6 : W8.heap[g6]? = some (.cells (rowN .u64 64 4 0) 24 (0, 0)) := by rw [hW8]; exact keep_row (by omega) (keep_row (by omega) (keep_alloc (keep_alloc r6)))
  replace r13 : W8.heap[g13]? = some (.cells (rowN .u64 64 4 M) 24 (0, 0)) := by rw [hW8]; exact keep_row (by omega) (keep_row (by omega) (keep_alloc (keep_alloc r13)))
  obtain ⟨r15, r16⟩ := heap2 w7 (.cells (rowN .u64 64 4 0) 24) (.cells (rowN .u64 64 4 0) 24)
  clear r16
  replace r15 : W8.heap[w7.heap.size]? = some (.cells (rowN .u64 64 4 P) 24 (0, 0)) := by rw [hW8, heap_setRow_ne _ _ _ _ (by omega), heap_setRow_at, r15]; rfl
  clear hW8 hs hl6 hl13
  generalize w7.heap.size + 1 = g16 at *
  generalize w7.heap.size = g15 at *
  go_wp2_with fail
  (with_reducible refine (HA.out _).mono ?_); rintro e w9 ⟨rfl, f⟩
  replace r6 := keep_fr f r6
  replace F := F.trans' f
  clear f r13 r15
  go_upto_region 6 with fail
  obtain ⟨W9, hW9⟩ : ∃ W, W = (w9.alloc (.cells (rowN .u64 64 4 0) 24)).setRow w9.heap.size (rowN .u64 64 4 S) := ⟨_, rfl⟩
  have N := put_new w9 (rowN .u64 64 4 0) (rowN .u64 64 4 S) 24
  rw [← hW9] at N
  refine wp_of_world W9 hW9 ?_
  have r18 := N.new
  replace r6 := N.old r6
  replace F := F.trans' N.fr
  clear N hW9
  generalize w9.heap.size = g18 at *
  cases bm
  · go_wp2_with fail
    refine bodyPost_ret (res_row_tmp rfl _ _ g6 _ _ _ _ rfl (new_row r6) Try.underlying24 rfl (by rw [Try.szWide]; rfl)) rfl ⟨by rw [← HO2.out]; rfl, F.setRow (fun h => by have := HG.out; omega) _⟩
  · go_wp2_with fail
    refine bodyPost_ret (res_row_tmp rfl _ _ g6 _ _ _ _ rfl (new_row r6) Try.underlying24 rfl (by rw [Try.szWide]; rfl)) rfl ⟨by rw [← HO2.out]; rfl, F.setRow (fun h => by have := HG.out; omega) _⟩

/-- What is divided first, and its rest by itself, is what is divided last. -/
theorem times_num (t up b : Nat) (hb : 0 < b) : t * up / b = t / b * up + t % b * up / b := by
  have h := Nat.div_add_mod t b
  have e : t * up = b * (t / b * up) + t % b * up := by
    conv => lhs; rw [← h]
    rw [Nat.add_mul, Nat.mul_assoc]
  rw [e, Nat.mul_add_div hb]

theorem two_parts {a p n W : Nat} (hn : n = a + p) (hW : 0 < W) : (n < W → (a % W + p) % W = n) ∧ (decide (W ≤ a) || decide (W ≤ a % W + p)) = decide (W ≤ n) := by
  subst hn
  refine ⟨fun h => ?_, ?_⟩
  · rw [Nat.mod_eq_of_lt (show a < W by omega), Nat.mod_eq_of_lt h]
  · by_cases h1 : W ≤ a
    · rw [decide_eq_true h1, Bool.true_or, decide_eq_true (by omega)]
    · rw [decide_eq_false h1, Bool.false_or, Nat.mod_eq_of_lt (by omega)]

theorem times_any (t up by' : Nat) (ht : t < W256) (hup : up < 18446744073709551616) (hby : by' < 18446744073709551616) (hb : 0 < by') :
    ∃ S, S < W256 ∧ (t * up / by' < W256 → S = t * up / by') ∧ ∀ w, Calls Try.prog 44 #[.agg (rowN .u64 64 4 t), .int .u64 (up : Int), .int .u64 (by' : Int)] w fun e w' => e = .returned (.tuple #[.agg (rowN .u64 64 4 S), .bool (decide (W256 ≤ t * up / by'))]) ∧ Fr F0 w w' := by
  have hR : t % by' < 18446744073709551616 := Nat.lt_trans (Nat.mod_lt _ hb) hby
  have hQ : t / by' < W256 := Nat.lt_of_le_of_lt (Nat.div_le_self _ _) ht
  have hbW := word_w hby
  have hX : t % by' * up < W256 := Nat.lt_of_lt_of_le (Nat.mul_lt_mul'' hR hup) (show 2 ^ 64 * 2 ^ 64 ≤ W256 by rw [← Nat.pow_add]; exact Nat.pow_le_pow_right (by omega) (by omega))
  have hP : t % by' * up / by' < W256 := Nat.lt_of_le_of_lt (Nat.div_le_self _ _) hX
  have hn := times_num t up by' hb
  have hM : t / by' * up % W256 < W256 := Nat.mod_lt _ W256_pos
  have h2 := two_parts hn W256_pos
  refine ⟨(t / by' * up % W256 + t % by' * up / by') % W256, Nat.mod_lt _ W256_pos, h2.1, fun w => ?_⟩
  · refine times_core t up by' (t / by') (t % by') (t / by' * up % W256) (t % by' * up) (t % by' * up / by') (t % by' * up % by') _ (decide (W256 ≤ t / by' * up)) (decide (W256 ≤ t / by' * up % W256 + t % by' * up / by')) _ h2.2
      (Lib.hid fun w => wOf_any by' hby w) (Lib.hid fun w => wDiv_any t by' ht hbW hb w) (Lib.hid fun w => ?_) (Lib.hid fun w => wMul_any _ up hQ hup w) (Lib.hid fun w => wProduct_any _ up hR hup w) (Lib.hid fun w => wDiv_any _ by' hX hbW hb w) (Lib.hid fun w => wAdd_any _ _ hM hP w) w
    · have := wUint_any (t % by') (word_w hR) w
      rwa [if_pos hR, decide_eq_true hR] at this

set_option maxRecDepth 100000 in
set_option maxHeartbeats 4000000 in
theorem tScale_core (t up most S R : Nat) (z : Int) (oz om oo os : Bool) (c : Int) (hz : decide (z = 0) = oz) (hm : rowEq 256 most 0 = om) (hs : rowEq 256 S 0 = os)
    (HT : Hid (oz = false → om = false → ∀ w, Calls Try.prog 44 #[.agg (rowN .u64 64 4 t), .int .u64 (up : Int), .int .u64 z] w fun e w' => e = .returned (.tuple #[.agg (rowN .u64 64 4 S), .bool oo]) ∧ Fr F0 w w'))
    (HC : Hid (∀ w, Calls Try.prog 9 #[.agg (rowN .u64 64 4 S), .agg (rowN .u64 64 4 most)] w fun e w' => e = .returned (.int .i64 c) ∧ Fr F0 w w'))
    (HO : Hid (∀ w, Calls Try.prog 25 #[.int .u64 1] w fun o w' => o = .returned (.agg (rowN .u64 64 4 1)) ∧ Fr F0 w w'))
    (oc : Bool) (hc : decide (0 < c) = oc) (E : Int) (HE : Hid (E = if oz = true then 5 else if om = true then 1 else 0)) (HV : Hid (R = if oz = true then 0 else if om = true then 0 else if (oo || oc) = true then most else if os = true then 1 else S)) (w : World) :
    Calls Try.prog 23 #[.agg (rowN .u64 64 4 t), .int .u64 (up : Int), .int .u64 z, .agg (rowN .u64 64 4 most)] w fun e w' => e = .returned (.tuple #[.agg (rowN .u64 64 4 R), .int .i64 E]) ∧ Fr F0 w w' := by
  go_enter Try.func23, Try.ntmps23
  go_upto_region 1 with fail
  obtain ⟨r4, r7, r8⟩ := heap3 w (.cells (rowN .u64 64 4 t) 24) (.cells (rowN .u64 64 4 most) 24) (.cells (rowN .u64 64 4 0) 24)
  have F := (((Fr.refl F0 w).alloc (.cells (rowN .u64 64 4 t) 24)).alloc (.cells (rowN .u64 64 4 most) 24)).alloc (.cells (rowN .u64 64 4 0) 24)
  obtain ⟨W0, hW0⟩ : ∃ W, W = ((w.alloc (.cells (rowN .u64 64 4 t) 24)).alloc (.cells (rowN .u64 64 4 most) 24)).alloc (.cells (rowN .u64 64 4 0) 24) := ⟨_, rfl⟩
  rw [← hW0] at r4 r7 r8 F
  refine wp_of_world W0 hW0 ?_
  clear hW0
  generalize hg8 : w.heap.size + 1 + 1 = g8 at *
  generalize hg7 : w.heap.size + 1 = g7 at *
  generalize hg4 : w.heap.size = g4 at *
  have HG := Lib.hid (show w.heap.size ≤ g8 by omega)
  clear hg4 hg7 hg8
  cases oz
  · replace hz : ¬ z = 0 := of_decide_eq_false hz
    cases om
    · have HT2 := Lib.hid (HT.out rfl rfl)
      clear HT
      go_wp2_with fail
      (with_reducible refine (HT2.out _).mono ?_); rintro e w1 ⟨rfl, f⟩
      replace r7 := keep_fr f r7
      replace r8 := keep_fr f r8
      replace F := F.trans' f
      clear f r4
      go_upto_region 6 with fail
      obtain ⟨W2, hW2⟩ : ∃ W, W = (w1.alloc (.cells (rowN .u64 64 4 0) 24)).setRow w1.heap.size (rowN .u64 64 4 S) := ⟨_, rfl⟩
      have N := put_new w1 (rowN .u64 64 4 0) (rowN .u64 64 4 S) 24
      rw [← hW2] at N
      refine wp_of_world W2 hW2 ?_
      have r10 := N.new
      replace r7 := N.old r7
      replace r8 := N.old r8
      replace F := F.trans' N.fr
      clear N hW2
      generalize w1.heap.size = g10 at *
      cases oo
      · go_wp2_with fail
        (with_reducible refine (HC.out _).mono ?_); rintro e w3 ⟨rfl, f⟩
        replace r7 := keep_fr f r7
        replace r8 := keep_fr f r8
        replace r10 := keep_fr f r10
        replace F := F.trans' f
        clear f
        cases oc
        · cases os
          · go_wp2_with fail
            refine bodyPost_ret (res_row_tmp rfl _ _ g8 _ _ _ _ rfl (new_row r8) Try.underlying24 rfl (by rw [Try.szWide]; rfl)) rfl ⟨by rw [HV.out, HE.out]; rfl, F.setRow (fun h => by have := HG.out; omega) _⟩
          · go_wp2_with fail
            (with_reducible refine (HO.out _).mono ?_); rintro e w4 ⟨rfl, f⟩
            replace r8 := keep_fr f r8
            replace F := F.trans' f
            clear f r7 r10
            go_wp2_with fail
            refine bodyPost_ret (res_row_tmp rfl _ _ g8 _ _ _ _ rfl (new_row r8) Try.underlying24 rfl (by rw [Try.szWide]; rfl)) rfl ⟨by rw [HV.out, HE.out]; rfl, F.setRow (fun h => by have := HG.out; omega) _⟩
        · go_wp2_with fail
          refine bodyPost_ret (res_row_tmp rfl _ _ g8 _ _ _ _ rfl (new_row r8) Try.underlying24 rfl (by rw [Try.szWide]; rfl)) rfl ⟨by rw [HV.out, HE.out]; rfl, F.setRow (fun h => by have := HG.out; omega) _⟩
      · go_wp2_with fail
        refine bodyPost_ret (res_row_tmp rfl _ _ g8 _ _ _ _ rfl (new_row r8) Try.underlying24 rfl (by rw [Try.szWide]; rfl)) rfl ⟨by rw [HV.out, HE.out]; rfl, F.setRow (fun h => by have := HG.out; omega) _⟩
    · clear HT
      go_wp2_with fail
      refine bodyPost_ret (res_row_tmp rfl _ _ g8 _ _ _ _ rfl (new_row r8) Try.underlying24 rfl (by rw [Try.szWide]; rfl)) rfl ⟨by rw [HV.out, HE.out]; rfl, F.setRow (fun h => by have := HG.out; omega) _⟩
  · replace hz : z = 0 := of_decide_eq_true hz
    clear HT
    go_wp2_with fail
    refine bodyPost_ret (res_row_tmp rfl _ _ g8 _ _ _ _ rfl (new_row r8) Try.underlying24 rfl (by rw [Try.szWide]; rfl)) rfl ⟨by rw [HV.out, HE.out]; rfl, F.setRow (fun h => by have := HG.out; omega) _⟩

theorem scaleC : ScaleC := by
  intro t up by' most ht hup hby hmost w
  have h1W : 1 < W256 := word_w (by omega)
  have hO := Lib.hid fun w => show Calls Try.prog 25 #[.int .u64 1] w fun o w' => o = .returned (.agg (rowN .u64 64 4 1)) ∧ Fr F0 w w' from wOf_any 1 (by omega) w
  have hdz : decide ((by' : Int) = 0) = decide (by' = 0) := decide_eq_decide.2 (by omega)
  have hE : scE by' most = if decide (by' = 0) = true then 5 else if decide (most = 0) = true then 1 else 0 := by
    unfold scE; simp only [decide_eq_true_iff]
  by_cases hb : 0 < by'
  · obtain ⟨S, hS, hS2, hT⟩ := times_any t up by' ht hup hby hb
    refine tScale_core t up most S _ (by' : Int) (decide (by' = 0)) (decide (most = 0)) (decide (W256 ≤ t * up / by')) (decide (S = 0)) (sgn S most) hdz (rowEq_0 _ hmost _ rfl) (rowEq_0 _ hS _ rfl) (Lib.hid fun _ _ => hT) (Lib.hid fun w => wCmp_any S most hS hmost w) hO _ rfl _ (Lib.hid hE) (Lib.hid ?_) w
    have hc : decide (0 < sgn S most) = decide (most < S) := decide_eq_decide.2 (by have := sgn_le S most; omega)
    rw [hc]
    simp only [decide_eq_true_iff, Bool.or_eq_true]
    unfold scV scN
    by_cases h0 : by' = 0
    · rw [if_pos h0, if_pos h0]
    · rw [if_neg h0, if_neg h0]
      by_cases h1 : most = 0
      · rw [if_pos h1, if_pos h1]
      · rw [if_neg h1, if_neg h1]
        by_cases h2 : W256 ≤ t * up / by'
        · rw [if_pos (by omega), if_pos (.inl h2)]
        · rw [hS2 (by omega)]
          by_cases h3 : most < t * up / by'
          · rw [if_pos h3, if_pos (.inr h3)]
          · rw [if_neg h3, if_neg (show ¬ (W256 ≤ t * up / by' ∨ most < t * up / by') from fun h => h.elim h2 h3)]
  · refine tScale_core t up most 0 _ (by' : Int) (decide (by' = 0)) (decide (most = 0)) false true (sgn 0 most) hdz (rowEq_0 _ hmost _ rfl) rfl (Lib.hid fun h => absurd (of_decide_eq_false h) (by omega)) (Lib.hid fun w => wCmp_any 0 most W256_pos hmost w) hO _ rfl _ (Lib.hid hE) (Lib.hid ?_) w
    rw [decide_eq_true (show by' = 0 by omega), if_pos rfl]
    exact if_pos (by omega)
end Go.Proofs.Ytgdnmmobnfjegaa
