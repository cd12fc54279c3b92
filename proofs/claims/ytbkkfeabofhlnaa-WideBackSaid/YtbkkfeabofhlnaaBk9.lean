/- Layer 3's law WideBack: the statement that divides. -/
import Derived.Test.YtbkkfeabofhlnaaLv3
namespace Go.Proofs.Ytbkkfeabofhlnaa
set_option linter.unusedVariables false
set_option linter.unusedSimpArgs false
open Go.RowKit

set_option maxRecDepth 100000 in
set_option maxHeartbeats 16000000 in
theorem back9 {s0 s1 s4 s5 s6 s7 s8 s9 s10 s11 s12 s13 s14 s15 s16 s17 s18 s19 s20 s21 s22 s23 s24 s25 s26 s27 s28 s29 s30 s31 s32 s33 s34 s35 s36 s37 s38 s39 s40 s41 s42 s43 s44 s45 s46 s47 s48 s49 s50 s51 s52 s53 s54 s55 s56 s57 s58 s59 s60 s61 s62 s63 s64 s65 s66 s67 s68 s69 s70 s71 s72 s73 s74 s75 s76 s77 s78 s79 s80 s81 s82 s83 s84 s85 : Value} {K : Act → World → Prop} {Q : Exit → Act → World → Prop} (w w6 : World) (a x q r g0 : Nat) (HO : RowKit.Hid (∀ w : World, Calls Try.prog 12 #[.int .u64 x] w fun e w' => e = .returned (.agg (rowN .u64 64 4 x)) ∧ Fr F0 w w')) (HD : RowKit.Hid (∀ w : World, Calls Try.prog 11 #[.agg (rowN .u64 64 4 a), .agg (rowN .u64 64 4 x)] w fun e w' => e = .returned (.tuple #[.agg (rowN .u64 64 4 q), .agg (rowN .u64 64 4 r), .int .i64 0]) ∧ Fr F0 w w')) (r0 : w6.heap[g0]? = some (.cells (rowN .u64 64 4 a) 24 (0, 0))) (F : Fr F0 w w6)
    (hK : RowKit.Hid (∀ {u11 u12 u13 u44 u45 u46 u47 u48 u49 u50 u51 : Value} {w' : World}, ((∃ p1 p2 : Nat, u11 = .pointer (some ⟨p1, 0, none⟩) ∧ u12 = .pointer (some ⟨p2, 0, none⟩) ∧ w'.heap[p1]? = some (.cells (rowN .u64 64 4 q) 24 (0, 0)) ∧ w'.heap[p2]? = some (.cells (rowN .u64 64 4 r) 24 (0, 0))) ∧ u13 = .int .i64 0 ∧ w'.heap[g0]? = some (.cells (rowN .u64 64 4 a) 24 (0, 0)) ∧ Fr F0 w w') → K ⟨#[s0, s1, .int .u64 x, .pointer (some ⟨g0, 0, none⟩), s4, s5, s6, s7, s8, s9, s10, u11, u12, u13, s14, s15, s16, s17, s18, s19, s20, s21, s22, s23, s24, s25, s26, s27, s28, s29, s30, s31, s32, s33, s34, s35, s36, s37, s38, s39, s40, s41, s42, s43, u44, u45, u46, u47, u48, u49, u50, u51, s52, s53, s54, s55, s56, s57, s58, s59, s60, s61, s62, s63, s64, s65, s66, s67, s68, s69, s70, s71, s72, s73, s74, s75, s76, s77, s78, s79, s80, s81, s82, s83, s84, s85], []⟩ w')) :
    Code.wp Try.prog ((Try.f3.body.bind (findRegion 9)).getD .skip) (Exit.then K Q) ⟨#[s0, s1, .int .u64 x, .pointer (some ⟨g0, 0, none⟩), s4, s5, s6, s7, s8, s9, s10, s11, s12, s13, s14, s15, s16, s17, s18, s19, s20, s21, s22, s23, s24, s25, s26, s27, s28, s29, s30, s31, s32, s33, s34, s35, s36, s37, s38, s39, s40, s41, s42, s43, s44, s45, s46, s47, s48, s49, s50, s51, s52, s53, s54, s55, s56, s57, s58, s59, s60, s61, s62, s63, s64, s65, s66, s67, s68, s69, s70, s71, s72, s73, s74, s75, s76, s77, s78, s79, s80, s81, s82, s83, s84, s85], []⟩ w6 := by
  conv => arg 2; whnf
  have HG0 := Lib.hid (And.intro (Array.getElem?_eq_some_iff.1 r0).1 F.size)
  refine wp_region_noPanic ?_
  refine wp_region_held_drew (S := (fun w' => w'.heap[g0]? = some (.cells (rowN .u64 64 4 a) 24 (0, 0)) ∧ Fr F0 w w')) (by kernel_rfl) ?_ (fun hHeld => ?_)
  · ((try dsimp only) <;> (first | exact ⟨r0, F.drew⟩ | exact ⟨keep_fr f5 hHeld.1, hHeld.2.trans' f5⟩ | exact ⟨keep_alloc hHeld.1, hHeld.2.alloc _⟩ | exact ⟨keep_row (by have := HG0.out; omega) hHeld.1, hHeld.2.setRow (fun h => by have := HG0.out; omega) _⟩))
  refine wpAnyH_take (i := 0) (oi := ⟨_, _, _, _, _, _⟩) (v := ?_) rfl (by kernel_rfl) (by kernel_rfl) (by kernel_rfl) (fun _ _ _ h => h) (Or.inl ⟨by rfl, ?_⟩) (by assumption) ?_
  rotate_left
  · intro w hSw; (try dsimp only at hSw); go_simp; (try (with_reducible rfl)); done
  simp only [Act.put, List.setIfInBounds_toArray]; dsimp only [List.set_cons_zero, List.set_cons_succ]
  refine wpAnyH_take (i := 1) (oi := ⟨_, _, _, _, _, _⟩) (v := ?_) rfl (by kernel_rfl) (by kernel_rfl) (by kernel_rfl) (fun _ _ _ h => h) (Or.inl ⟨by rfl, ?_⟩) (by assumption) ?_
  rotate_left
  · intro w hSw; (try dsimp only at hSw); go_simp; (try (with_reducible rfl)); done
  simp only [Act.put, List.setIfInBounds_toArray]; dsimp only [List.set_cons_zero, List.set_cons_succ]
  refine wpAnyH_ready (rs := [2, 8, 9]) (by kernel_rfl) (by simp) ?_
  refine AllReadyH.cons (o := ⟨_, _, _, _, _, _⟩) rfl (fun K hK => ?_) (AllReadyH.cons (o := ⟨_, _, _, _, _, _⟩) rfl (fun K hK => ?_) (AllReadyH.cons (o := ⟨_, _, _, _, _, _⟩) rfl (fun K hK => ?_) AllReadyH.nil))
  go_simp
  (refine (HO.out _).mono ?_; rintro e w5 ⟨rfl, f5⟩; have z5 := f5.size; (try simp only [World.size_alloc, heap_drew'] at z5))
  refine hK.out _ _ ?_ (fun hHeld => ?_)
  · ((try dsimp only) <;> (first | exact ⟨r0, F.drew⟩ | exact ⟨keep_fr f5 hHeld.1, hHeld.2.trans' f5⟩ | exact ⟨keep_alloc hHeld.1, hHeld.2.alloc _⟩ | exact ⟨keep_row (by have := HG0.out; omega) hHeld.1, hHeld.2.setRow (fun h => by have := HG0.out; omega) _⟩))
  clear hK K
  try (simp only [Act.put, List.setIfInBounds_toArray]; dsimp only [List.set_cons_zero, List.set_cons_succ])
  refine wpAnyH_ready (rs := [3, 8, 9]) (by kernel_rfl) (by simp) ?_
  refine AllReadyH.cons (o := ⟨_, _, _, _, _, _⟩) rfl (fun K hK => ?_) (AllReadyH.cons (o := ⟨_, _, _, _, _, _⟩) rfl (fun K hK => ?_) (AllReadyH.cons (o := ⟨_, _, _, _, _, _⟩) rfl (fun K hK => ?_) AllReadyH.nil))
  go_simp
  (refine (HD.out _).mono ?_; rintro e w5 ⟨rfl, f5⟩; have z5 := f5.size; (try simp only [World.size_alloc, heap_drew'] at z5))
  refine hK.out _ _ ?_ (fun hHeld => ?_)
  · ((try dsimp only) <;> (first | exact ⟨r0, F.drew⟩ | exact ⟨keep_fr f5 hHeld.1, hHeld.2.trans' f5⟩ | exact ⟨keep_alloc hHeld.1, hHeld.2.alloc _⟩ | exact ⟨keep_row (by have := HG0.out; omega) hHeld.1, hHeld.2.setRow (fun h => by have := HG0.out; omega) _⟩))
  clear hK K
  try (simp only [Act.put, List.setIfInBounds_toArray]; dsimp only [List.set_cons_zero, List.set_cons_succ])
  refine wpAnyH_take (i := 4) (oi := ⟨_, _, _, _, _, _⟩) (v := ?_) rfl (by kernel_rfl) (by kernel_rfl) (by kernel_rfl) (fun _ _ _ h => h) (Or.inl ⟨by rfl, ?_⟩) (by assumption) ?_
  rotate_left
  · intro w hSw; (try dsimp only at hSw); go_simp; (try (with_reducible rfl)); done
  simp only [Act.put, List.setIfInBounds_toArray]; dsimp only [List.set_cons_zero, List.set_cons_succ]
  refine wpAnyH_take (i := 5) (oi := ⟨_, _, _, _, _, _⟩) (v := ?_) rfl (by kernel_rfl) (by kernel_rfl) (by kernel_rfl) (fun _ _ _ h => h) (Or.inl ⟨by rfl, ?_⟩) (by assumption) ?_
  rotate_left
  · intro w hSw; (try dsimp only at hSw); go_simp; (try (with_reducible rfl)); done
  simp only [Act.put, List.setIfInBounds_toArray]; dsimp only [List.set_cons_zero, List.set_cons_succ]
  refine wpAnyH_take (i := 6) (oi := ⟨_, _, _, _, _, _⟩) (v := ?_) rfl (by kernel_rfl) (by kernel_rfl) (by kernel_rfl) (fun _ _ _ h => h) (Or.inl ⟨by rfl, ?_⟩) (by assumption) ?_
  rotate_left
  · intro w hSw; (try dsimp only at hSw); go_simp; (try (with_reducible rfl)); done
  simp only [Act.put, List.setIfInBounds_toArray]; dsimp only [List.set_cons_zero, List.set_cons_succ]
  refine wpAnyH_take (i := 7) (oi := ⟨_, _, _, _, _, _⟩) (v := ?_) rfl (by kernel_rfl) (by kernel_rfl) (by kernel_rfl) (fun _ _ _ h => h) (Or.inl ⟨by rfl, ?_⟩) (by assumption) ?_
  rotate_left
  · intro w hSw; (try dsimp only at hSw); go_simp; (try (with_reducible rfl)); done
  simp only [Act.put, List.setIfInBounds_toArray]; dsimp only [List.set_cons_zero, List.set_cons_succ]
  refine wpAnyH_ready (rs := [8, 9]) (by kernel_rfl) (by simp) ?_
  refine AllReadyH.cons (o := ⟨_, _, _, _, _, _⟩) rfl (fun K hK => ?_) (AllReadyH.cons (o := ⟨_, _, _, _, _, _⟩) rfl (fun K hK => ?_) AllReadyH.nil)
  go_simp
  refine hK.out _ _ ?_ (fun hHeld => ?_)
  · ((try dsimp only) <;> (first | exact ⟨r0, F.drew⟩ | exact ⟨keep_fr f5 hHeld.1, hHeld.2.trans' f5⟩ | exact ⟨keep_alloc hHeld.1, hHeld.2.alloc _⟩ | exact ⟨keep_row (by have := HG0.out; omega) hHeld.1, hHeld.2.setRow (fun h => by have := HG0.out; omega) _⟩))
  clear hK K
  try (simp only [Act.put, List.setIfInBounds_toArray]; dsimp only [List.set_cons_zero, List.set_cons_succ])
  refine wpAnyH_ready (rs := [9]) (by kernel_rfl) (by simp) ?_
  refine AllReadyH.cons (o := ⟨_, _, _, _, _, _⟩) rfl (fun K hK => ?_) AllReadyH.nil
  go_simp
  refine hK.out _ _ ?_ (fun hHeld => ?_)
  · ((try dsimp only) <;> (first | exact ⟨r0, F.drew⟩ | exact ⟨keep_fr f5 hHeld.1, hHeld.2.trans' f5⟩ | exact ⟨keep_alloc hHeld.1, hHeld.2.alloc _⟩ | exact ⟨keep_row (by have := HG0.out; omega) hHeld.1, hHeld.2.setRow (fun h => by have := HG0.out; omega) _⟩))
  clear hK K
  try (simp only [Act.put, List.setIfInBounds_toArray]; dsimp only [List.set_cons_zero, List.set_cons_succ])
  refine wpAnyH_ready (rs := [10]) (by kernel_rfl) (by simp) ?_
  refine AllReadyH.cons (o := ⟨_, _, _, _, _, _⟩) rfl (fun K hK => ?_) AllReadyH.nil
  go_simp
  (try (rw [rowIn_of (old := rowN .u64 64 4 0) (t' := 24) (by ((try rw [← Array.getElem?_eq_getElem]); repeat (first | exact heap_alloc_new _ _ | exact heap_alloc2_new _ _ _ | refine keep_alloc ?_ | refine keep_fr (by assumption) ?_))) (rowN_size _ _ _ _) (rowN_size _ _ _ _) (rowN_rowOne _ _ _ _)]; go_simp))
  refine hK.out _ _ ?_ (fun hHeld => ?_)
  · ((try dsimp only) <;> (first | exact ⟨r0, F.drew⟩ | exact ⟨keep_fr f5 hHeld.1, hHeld.2.trans' f5⟩ | exact ⟨keep_alloc hHeld.1, hHeld.2.alloc _⟩ | exact ⟨keep_row (by have := HG0.out; omega) hHeld.1, hHeld.2.setRow (fun h => by have := HG0.out; omega) _⟩))
  clear hK K
  try (simp only [Act.put, List.setIfInBounds_toArray]; dsimp only [List.set_cons_zero, List.set_cons_succ])
  refine wpAnyH_ready (rs := [11]) (by kernel_rfl) (by simp) ?_
  refine AllReadyH.cons (o := ⟨_, _, _, _, _, _⟩) rfl (fun K hK => ?_) AllReadyH.nil
  go_simp
  (try (rw [rowIn_of (old := rowN .u64 64 4 0) (t' := 24) (by ((try rw [← Array.getElem?_eq_getElem]); repeat (first | exact heap_alloc_new _ _ | exact heap_alloc2_new _ _ _ | refine keep_row (by (try simp only [World.size_alloc]); omega) ?_ | refine keep_alloc ?_ | refine keep_fr (by assumption) ?_))) (rowN_size _ _ _ _) (rowN_size _ _ _ _) (rowN_rowOne _ _ _ _)]; go_simp))
  refine hK.out _ _ ?_ (fun hHeld => ?_)
  · ((try dsimp only) <;> (first | exact ⟨r0, F.drew⟩ | exact ⟨keep_fr f5 hHeld.1, hHeld.2.trans' f5⟩ | exact ⟨keep_alloc hHeld.1, hHeld.2.alloc _⟩ | exact ⟨keep_row (by have := HG0.out; omega) hHeld.1, hHeld.2.setRow (fun h => by have := HG0.out; omega) _⟩))
  clear hK K
  try (simp only [Act.put, List.setIfInBounds_toArray]; dsimp only [List.set_cons_zero, List.set_cons_succ])
  refine wpAnyH_take (i := 12) (oi := ⟨_, _, _, _, _, _⟩) (v := ?_) rfl (by kernel_rfl) (by kernel_rfl) (by kernel_rfl) (fun _ _ _ h => h) (Or.inl ⟨by rfl, ?_⟩) (by assumption) ?_
  rotate_left
  · intro w hSw; (try dsimp only at hSw); go_simp; (try (with_reducible rfl)); done
  simp only [Act.put, List.setIfInBounds_toArray]; dsimp only [List.set_cons_zero, List.set_cons_succ]
  refine wpAnyH_done (by kernel_rfl) ?_ _
  refine NoPanic.normal ?_
  rotate_left
  go_simp
  refine hK.out _ _ ?_ (fun hHeld => ?_)
  · ((try dsimp only) <;> (first | exact ⟨r0, F.drew⟩ | exact ⟨keep_fr f5 hHeld.1, hHeld.2.trans' f5⟩ | exact ⟨keep_alloc hHeld.1, hHeld.2.alloc _⟩ | exact ⟨keep_row (by have := HG0.out; omega) hHeld.1, hHeld.2.setRow (fun h => by have := HG0.out; omega) _⟩))
  clear hK K
  try (simp only [Act.put, List.setIfInBounds_toArray]; dsimp only [List.set_cons_zero, List.set_cons_succ])
  refine wpAnyH_ready (rs := [8]) (by kernel_rfl) (by simp) ?_
  refine AllReadyH.cons (o := ⟨_, _, _, _, _, _⟩) rfl (fun K hK => ?_) AllReadyH.nil
  go_simp
  refine hK.out _ _ ?_ (fun hHeld => ?_)
  · ((try dsimp only) <;> (first | exact ⟨r0, F.drew⟩ | exact ⟨keep_fr f5 hHeld.1, hHeld.2.trans' f5⟩ | exact ⟨keep_alloc hHeld.1, hHeld.2.alloc _⟩ | exact ⟨keep_row (by have := HG0.out; omega) hHeld.1, hHeld.2.setRow (fun h => by have := HG0.out; omega) _⟩))
  clear hK K
  try (simp only [Act.put, List.setIfInBounds_toArray]; dsimp only [List.set_cons_zero, List.set_cons_succ])
  refine wpAnyH_ready (rs := [10]) (by kernel_rfl) (by simp) ?_
  refine AllReadyH.cons (o := ⟨_, _, _, _, _, _⟩) rfl (fun K hK => ?_) AllReadyH.nil
  go_simp
  (try (rw [rowIn_of (old := rowN .u64 64 4 0) (t' := 24) (by ((try rw [← Array.getElem?_eq_getElem]); repeat (first | exact heap_alloc_new _ _ | exact heap_alloc2_new _ _ _ | refine keep_alloc ?_ | refine keep_fr (by assumption) ?_))) (rowN_size _ _ _ _) (rowN_size _ _ _ _) (rowN_rowOne _ _ _ _)]; go_simp))
  refine hK.out _ _ ?_ (fun hHeld => ?_)
  · ((try dsimp only) <;> (first | exact ⟨r0, F.drew⟩ | exact ⟨keep_fr f5 hHeld.1, hHeld.2.trans' f5⟩ | exact ⟨keep_alloc hHeld.1, hHeld.2.alloc _⟩ | exact ⟨keep_row (by have := HG0.out; omega) hHeld.1, hHeld.2.setRow (fun h => by have := HG0.out; omega) _⟩))
  clear hK K
  try (simp only [Act.put, List.setIfInBounds_toArray]; dsimp only [List.set_cons_zero, List.set_cons_succ])
  refine wpAnyH_ready (rs := [11]) (by kernel_rfl) (by simp) ?_
  refine AllReadyH.cons (o := ⟨_, _, _, _, _, _⟩) rfl (fun K hK => ?_) AllReadyH.nil
  go_simp
  (try (rw [rowIn_of (old := rowN .u64 64 4 0) (t' := 24) (by ((try rw [← Array.getElem?_eq_getElem]); repeat (first | exact heap_alloc_new _ _ | exact heap_alloc2_new _ _ _ | refine keep_row (by (try simp only [World.size_alloc]); omega) ?_ | refine keep_alloc ?_ | refine keep_fr (by assumption) ?_))) (rowN_size _ _ _ _) (rowN_size _ _ _ _) (rowN_rowOne _ _ _ _)]; go_simp))
  refine hK.out _ _ ?_ (fun hHeld => ?_)
  · ((try dsimp only) <;> (first | exact ⟨r0, F.drew⟩ | exact ⟨keep_fr f5 hHeld.1, hHeld.2.trans' f5⟩ | exact ⟨keep_alloc hHeld.1, hHeld.2.alloc _⟩ | exact ⟨keep_row (by have := HG0.out; omega) hHeld.1, hHeld.2.setRow (fun h => by have := HG0.out; omega) _⟩))
  clear hK K
  try (simp only [Act.put, List.setIfInBounds_toArray]; dsimp only [List.set_cons_zero, List.set_cons_succ])
  refine wpAnyH_take (i := 12) (oi := ⟨_, _, _, _, _, _⟩) (v := ?_) rfl (by kernel_rfl) (by kernel_rfl) (by kernel_rfl) (fun _ _ _ h => h) (Or.inl ⟨by rfl, ?_⟩) (by assumption) ?_
  rotate_left
  · intro w hSw; (try dsimp only at hSw); go_simp; (try (with_reducible rfl)); done
  simp only [Act.put, List.setIfInBounds_toArray]; dsimp only [List.set_cons_zero, List.set_cons_succ]
  refine wpAnyH_done (by kernel_rfl) ?_ _
  refine NoPanic.normal ?_
  rotate_left
  go_simp
  refine hK.out _ _ ?_ (fun hHeld => ?_)
  · ((try dsimp only) <;> (first | exact ⟨r0, F.drew⟩ | exact ⟨keep_fr f5 hHeld.1, hHeld.2.trans' f5⟩ | exact ⟨keep_alloc hHeld.1, hHeld.2.alloc _⟩ | exact ⟨keep_row (by have := HG0.out; omega) hHeld.1, hHeld.2.setRow (fun h => by have := HG0.out; omega) _⟩))
  clear hK K
  try (simp only [Act.put, List.setIfInBounds_toArray]; dsimp only [List.set_cons_zero, List.set_cons_succ])
  refine wpAnyH_ready (rs := [3, 9]) (by kernel_rfl) (by simp) ?_
  refine AllReadyH.cons (o := ⟨_, _, _, _, _, _⟩) rfl (fun K hK => ?_) (AllReadyH.cons (o := ⟨_, _, _, _, _, _⟩) rfl (fun K hK => ?_) AllReadyH.nil)
  go_simp
  (refine (HD.out _).mono ?_; rintro e w5 ⟨rfl, f5⟩; have z5 := f5.size; (try simp only [World.size_alloc, heap_drew'] at z5))
  refine hK.out _ _ ?_ (fun hHeld => ?_)
  · ((try dsimp only) <;> (first | exact ⟨r0, F.drew⟩ | exact ⟨keep_fr f5 hHeld.1, hHeld.2.trans' f5⟩ | exact ⟨keep_alloc hHeld.1, hHeld.2.alloc _⟩ | exact ⟨keep_row (by have := HG0.out; omega) hHeld.1, hHeld.2.setRow (fun h => by have := HG0.out; omega) _⟩))
  clear hK K
  try (simp only [Act.put, List.setIfInBounds_toArray]; dsimp only [List.set_cons_zero, List.set_cons_succ])
  refine wpAnyH_take (i := 4) (oi := ⟨_, _, _, _, _, _⟩) (v := ?_) rfl (by kernel_rfl) (by kernel_rfl) (by kernel_rfl) (fun _ _ _ h => h) (Or.inl ⟨by rfl, ?_⟩) (by assumption) ?_
  rotate_left
  · intro w hSw; (try dsimp only at hSw); go_simp; (try (with_reducible rfl)); done
  simp only [Act.put, List.setIfInBounds_toArray]; dsimp only [List.set_cons_zero, List.set_cons_succ]
  refine wpAnyH_take (i := 5) (oi := ⟨_, _, _, _, _, _⟩) (v := ?_) rfl (by kernel_rfl) (by kernel_rfl) (by kernel_rfl) (fun _ _ _ h => h) (Or.inl ⟨by rfl, ?_⟩) (by assumption) ?_
  rotate_left
  · intro w hSw; (try dsimp only at hSw); go_simp; (try (with_reducible rfl)); done
  simp only [Act.put, List.setIfInBounds_toArray]; dsimp only [List.set_cons_zero, List.set_cons_succ]
  refine wpAnyH_take (i := 6) (oi := ⟨_, _, _, _, _, _⟩) (v := ?_) rfl (by kernel_rfl) (by kernel_rfl) (by kernel_rfl) (fun _ _ _ h => h) (Or.inl ⟨by rfl, ?_⟩) (by assumption) ?_
  rotate_left
  · intro w hSw; (try dsimp only at hSw); go_simp; (try (with_reducible rfl)); done
  simp only [Act.put, List.setIfInBounds_toArray]; dsimp only [List.set_cons_zero, List.set_cons_succ]
  refine wpAnyH_take (i := 7) (oi := ⟨_, _, _, _, _, _⟩) (v := ?_) rfl (by kernel_rfl) (by kernel_rfl) (by kernel_rfl) (fun _ _ _ h => h) (Or.inl ⟨by rfl, ?_⟩) (by assumption) ?_
  rotate_left
  · intro w hSw; (try dsimp only at hSw); go_simp; (try (with_reducible rfl)); done
  simp only [Act.put, List.setIfInBounds_toArray]; dsimp only [List.set_cons_zero, List.set_cons_succ]
  refine wpAnyH_ready (rs := [9]) (by kernel_rfl) (by simp) ?_
  refine AllReadyH.cons (o := ⟨_, _, _, _, _, _⟩) rfl (fun K hK => ?_) AllReadyH.nil
  go_simp
  refine hK.out _ _ ?_ (fun hHeld => ?_)
  · ((try dsimp only) <;> (first | exact ⟨r0, F.drew⟩ | exact ⟨keep_fr f5 hHeld.1, hHeld.2.trans' f5⟩ | exact ⟨keep_alloc hHeld.1, hHeld.2.alloc _⟩ | exact ⟨keep_row (by have := HG0.out; omega) hHeld.1, hHeld.2.setRow (fun h => by have := HG0.out; omega) _⟩))
  clear hK K
  try (simp only [Act.put, List.setIfInBounds_toArray]; dsimp only [List.set_cons_zero, List.set_cons_succ])
  refine wpAnyH_ready (rs := [10]) (by kernel_rfl) (by simp) ?_
  refine AllReadyH.cons (o := ⟨_, _, _, _, _, _⟩) rfl (fun K hK => ?_) AllReadyH.nil
  go_simp
  (try (rw [rowIn_of (old := rowN .u64 64 4 0) (t' := 24) (by ((try rw [← Array.getElem?_eq_getElem]); repeat (first | exact heap_alloc_new _ _ | exact heap_alloc2_new _ _ _ | refine keep_alloc ?_ | refine keep_fr (by assumption) ?_))) (rowN_size _ _ _ _) (rowN_size _ _ _ _) (rowN_rowOne _ _ _ _)]; go_simp))
  refine hK.out _ _ ?_ (fun hHeld => ?_)
  · ((try dsimp only) <;> (first | exact ⟨r0, F.drew⟩ | exact ⟨keep_fr f5 hHeld.1, hHeld.2.trans' f5⟩ | exact ⟨keep_alloc hHeld.1, hHeld.2.alloc _⟩ | exact ⟨keep_row (by have := HG0.out; omega) hHeld.1, hHeld.2.setRow (fun h => by have := HG0.out; omega) _⟩))
  clear hK K
  try (simp only [Act.put, List.setIfInBounds_toArray]; dsimp only [List.set_cons_zero, List.set_cons_succ])
  refine wpAnyH_ready (rs := [11]) (by kernel_rfl) (by simp) ?_
  refine AllReadyH.cons (o := ⟨_, _, _, _, _, _⟩) rfl (fun K hK => ?_) AllReadyH.nil
  go_simp
  (try (rw [rowIn_of (old := rowN .u64 64 4 0) (t' := 24) (by ((try rw [← Array.getElem?_eq_getElem]); repeat (first | exact heap_alloc_new _ _ | exact heap_alloc2_new _ _ _ | refine keep_row (by (try simp only [World.size_alloc]); omega) ?_ | refine keep_alloc ?_ | refine keep_fr (by assumption) ?_))) (rowN_size _ _ _ _) (rowN_size _ _ _ _) (rowN_rowOne _ _ _ _)]; go_simp))
  refine hK.out _ _ ?_ (fun hHeld => ?_)
  · ((try dsimp only) <;> (first | exact ⟨r0, F.drew⟩ | exact ⟨keep_fr f5 hHeld.1, hHeld.2.trans' f5⟩ | exact ⟨keep_alloc hHeld.1, hHeld.2.alloc _⟩ | exact ⟨keep_row (by have := HG0.out; omega) hHeld.1, hHeld.2.setRow (fun h => by have := HG0.out; omega) _⟩))
  clear hK K
  try (simp only [Act.put, List.setIfInBounds_toArray]; dsimp only [List.set_cons_zero, List.set_cons_succ])
  refine wpAnyH_take (i := 12) (oi := ⟨_, _, _, _, _, _⟩) (v := ?_) rfl (by kernel_rfl) (by kernel_rfl) (by kernel_rfl) (fun _ _ _ h => h) (Or.inl ⟨by rfl, ?_⟩) (by assumption) ?_
  rotate_left
  · intro w hSw; (try dsimp only at hSw); go_simp; (try (with_reducible rfl)); done
  simp only [Act.put, List.setIfInBounds_toArray]; dsimp only [List.set_cons_zero, List.set_cons_succ]
  refine wpAnyH_done (by kernel_rfl) ?_ _
  refine NoPanic.normal ?_
  rotate_left
  go_simp
  refine hK.out _ _ ?_ (fun hHeld => ?_)
  · ((try dsimp only) <;> (first | exact ⟨r0, F.drew⟩ | exact ⟨keep_fr f5 hHeld.1, hHeld.2.trans' f5⟩ | exact ⟨keep_alloc hHeld.1, hHeld.2.alloc _⟩ | exact ⟨keep_row (by have := HG0.out; omega) hHeld.1, hHeld.2.setRow (fun h => by have := HG0.out; omega) _⟩))
  clear hK K
  try (simp only [Act.put, List.setIfInBounds_toArray]; dsimp only [List.set_cons_zero, List.set_cons_succ])
  refine wpAnyH_ready (rs := [3]) (by kernel_rfl) (by simp) ?_
  refine AllReadyH.cons (o := ⟨_, _, _, _, _, _⟩) rfl (fun K hK => ?_) AllReadyH.nil
  go_simp
  (refine (HD.out _).mono ?_; rintro e w5 ⟨rfl, f5⟩; have z5 := f5.size; (try simp only [World.size_alloc, heap_drew'] at z5))
  refine hK.out _ _ ?_ (fun hHeld => ?_)
  · ((try dsimp only) <;> (first | exact ⟨r0, F.drew⟩ | exact ⟨keep_fr f5 hHeld.1, hHeld.2.trans' f5⟩ | exact ⟨keep_alloc hHeld.1, hHeld.2.alloc _⟩ | exact ⟨keep_row (by have := HG0.out; omega) hHeld.1, hHeld.2.setRow (fun h => by have := HG0.out; omega) _⟩))
  clear hK K
  try (simp only [Act.put, List.setIfInBounds_toArray]; dsimp only [List.set_cons_zero, List.set_cons_succ])
  refine wpAnyH_take (i := 4) (oi := ⟨_, _, _, _, _, _⟩) (v := ?_) rfl (by kernel_rfl) (by kernel_rfl) (by kernel_rfl) (fun _ _ _ h => h) (Or.inl ⟨by rfl, ?_⟩) (by assumption) ?_
  rotate_left
  · intro w hSw; (try dsimp only at hSw); go_simp; (try (with_reducible rfl)); done
  simp only [Act.put, List.setIfInBounds_toArray]; dsimp only [List.set_cons_zero, List.set_cons_succ]
  refine wpAnyH_take (i := 5) (oi := ⟨_, _, _, _, _, _⟩) (v := ?_) rfl (by kernel_rfl) (by kernel_rfl) (by kernel_rfl) (fun _ _ _ h => h) (Or.inl ⟨by rfl, ?_⟩) (by assumption) ?_
  rotate_left
  · intro w hSw; (try dsimp only at hSw); go_simp; (try (with_reducible rfl)); done
  simp only [Act.put, List.setIfInBounds_toArray]; dsimp only [List.set_cons_zero, List.set_cons_succ]
  refine wpAnyH_take (i := 6) (oi := ⟨_, _, _, _, _, _⟩) (v := ?_) rfl (by kernel_rfl) (by kernel_rfl) (by kernel_rfl) (fun _ _ _ h => h) (Or.inl ⟨by rfl, ?_⟩) (by assumption) ?_
  rotate_left
  · intro w hSw; (try dsimp only at hSw); go_simp; (try (with_reducible rfl)); done
  simp only [Act.put, List.setIfInBounds_toArray]; dsimp only [List.set_cons_zero, List.set_cons_succ]
  refine wpAnyH_take (i := 7) (oi := ⟨_, _, _, _, _, _⟩) (v := ?_) rfl (by kernel_rfl) (by kernel_rfl) (by kernel_rfl) (fun _ _ _ h => h) (Or.inl ⟨by rfl, ?_⟩) (by assumption) ?_
  rotate_left
  · intro w hSw; (try dsimp only at hSw); go_simp; (try (with_reducible rfl)); done
  simp only [Act.put, List.setIfInBounds_toArray]; dsimp only [List.set_cons_zero, List.set_cons_succ]
  refine wpAnyH_ready (rs := [10]) (by kernel_rfl) (by simp) ?_
  refine AllReadyH.cons (o := ⟨_, _, _, _, _, _⟩) rfl (fun K hK => ?_) AllReadyH.nil
  go_simp
  (try (rw [rowIn_of (old := rowN .u64 64 4 0) (t' := 24) (by ((try rw [← Array.getElem?_eq_getElem]); repeat (first | exact heap_alloc_new _ _ | exact heap_alloc2_new _ _ _ | refine keep_alloc ?_ | refine keep_fr (by assumption) ?_))) (rowN_size _ _ _ _) (rowN_size _ _ _ _) (rowN_rowOne _ _ _ _)]; go_simp))
  refine hK.out _ _ ?_ (fun hHeld => ?_)
  · ((try dsimp only) <;> (first | exact ⟨r0, F.drew⟩ | exact ⟨keep_fr f5 hHeld.1, hHeld.2.trans' f5⟩ | exact ⟨keep_alloc hHeld.1, hHeld.2.alloc _⟩ | exact ⟨keep_row (by have := HG0.out; omega) hHeld.1, hHeld.2.setRow (fun h => by have := HG0.out; omega) _⟩))
  clear hK K
  try (simp only [Act.put, List.setIfInBounds_toArray]; dsimp only [List.set_cons_zero, List.set_cons_succ])
  refine wpAnyH_ready (rs := [11]) (by kernel_rfl) (by simp) ?_
  refine AllReadyH.cons (o := ⟨_, _, _, _, _, _⟩) rfl (fun K hK => ?_) AllReadyH.nil
  go_simp
  (try (rw [rowIn_of (old := rowN .u64 64 4 0) (t' := 24) (by ((try rw [← Array.getElem?_eq_getElem]); repeat (first | exact heap_alloc_new _ _ | exact heap_alloc2_new _ _ _ | refine keep_row (by (try simp only [World.size_alloc]); omega) ?_ | refine keep_alloc ?_ | refine keep_fr (by assumption) ?_))) (rowN_size _ _ _ _) (rowN_size _ _ _ _) (rowN_rowOne _ _ _ _)]; go_simp))
  refine hK.out _ _ ?_ (fun hHeld => ?_)
  · ((try dsimp only) <;> (first | exact ⟨r0, F.drew⟩ | exact ⟨keep_fr f5 hHeld.1, hHeld.2.trans' f5⟩ | exact ⟨keep_alloc hHeld.1, hHeld.2.alloc _⟩ | exact ⟨keep_row (by have := HG0.out; omega) hHeld.1, hHeld.2.setRow (fun h => by have := HG0.out; omega) _⟩))
  clear hK K
  try (simp only [Act.put, List.setIfInBounds_toArray]; dsimp only [List.set_cons_zero, List.set_cons_succ])
  refine wpAnyH_take (i := 12) (oi := ⟨_, _, _, _, _, _⟩) (v := ?_) rfl (by kernel_rfl) (by kernel_rfl) (by kernel_rfl) (fun _ _ _ h => h) (Or.inl ⟨by rfl, ?_⟩) (by assumption) ?_
  rotate_left
  · intro w hSw; (try dsimp only at hSw); go_simp; (try (with_reducible rfl)); done
  simp only [Act.put, List.setIfInBounds_toArray]; dsimp only [List.set_cons_zero, List.set_cons_succ]
  refine wpAnyH_done (by kernel_rfl) ?_ _
  refine NoPanic.normal ?_
  rotate_left
  go_simp
  refine hK.out _ _ ?_ (fun hHeld => ?_)
  · ((try dsimp only) <;> (first | exact ⟨r0, F.drew⟩ | exact ⟨keep_fr f5 hHeld.1, hHeld.2.trans' f5⟩ | exact ⟨keep_alloc hHeld.1, hHeld.2.alloc _⟩ | exact ⟨keep_row (by have := HG0.out; omega) hHeld.1, hHeld.2.setRow (fun h => by have := HG0.out; omega) _⟩))
  clear hK K
  try (simp only [Act.put, List.setIfInBounds_toArray]; dsimp only [List.set_cons_zero, List.set_cons_succ])
  refine wpAnyH_ready (rs := [3, 8]) (by kernel_rfl) (by simp) ?_
  refine AllReadyH.cons (o := ⟨_, _, _, _, _, _⟩) rfl (fun K hK => ?_) (AllReadyH.cons (o := ⟨_, _, _, _, _, _⟩) rfl (fun K hK => ?_) AllReadyH.nil)
  go_simp
  (refine (HD.out _).mono ?_; rintro e w5 ⟨rfl, f5⟩; have z5 := f5.size; (try simp only [World.size_alloc, heap_drew'] at z5))
  refine hK.out _ _ ?_ (fun hHeld => ?_)
  · ((try dsimp only) <;> (first | exact ⟨r0, F.drew⟩ | exact ⟨keep_fr f5 hHeld.1, hHeld.2.trans' f5⟩ | exact ⟨keep_alloc hHeld.1, hHeld.2.alloc _⟩ | exact ⟨keep_row (by have := HG0.out; omega) hHeld.1, hHeld.2.setRow (fun h => by have := HG0.out; omega) _⟩))
  clear hK K
  try (simp only [Act.put, List.setIfInBounds_toArray]; dsimp only [List.set_cons_zero, List.set_cons_succ])
  refine wpAnyH_take (i := 4) (oi := ⟨_, _, _, _, _, _⟩) (v := ?_) rfl (by kernel_rfl) (by kernel_rfl) (by kernel_rfl) (fun _ _ _ h => h) (Or.inl ⟨by rfl, ?_⟩) (by assumption) ?_
  rotate_left
  · intro w hSw; (try dsimp only at hSw); go_simp; (try (with_reducible rfl)); done
  simp only [Act.put, List.setIfInBounds_toArray]; dsimp only [List.set_cons_zero, List.set_cons_succ]
  refine wpAnyH_take (i := 5) (oi := ⟨_, _, _, _, _, _⟩) (v := ?_) rfl (by kernel_rfl) (by kernel_rfl) (by kernel_rfl) (fun _ _ _ h => h) (Or.inl ⟨by rfl, ?_⟩) (by assumption) ?_
  rotate_left
  · intro w hSw; (try dsimp only at hSw); go_simp; (try (with_reducible rfl)); done
  simp only [Act.put, List.setIfInBounds_toArray]; dsimp only [List.set_cons_zero, List.set_cons_succ]
  refine wpAnyH_take (i := 6) (oi := ⟨_, _, _, _, _, _⟩) (v := ?_) rfl (by kernel_rfl) (by kernel_rfl) (by kernel_rfl) (fun _ _ _ h => h) (Or.inl ⟨by rfl, ?_⟩) (by assumption) ?_
  rotate_left
  · intro w hSw; (try dsimp only at hSw); go_simp; (try (with_reducible rfl)); done
  simp only [Act.put, List.setIfInBounds_toArray]; dsimp only [List.set_cons_zero, List.set_cons_succ]
  refine wpAnyH_take (i := 7) (oi := ⟨_, _, _, _, _, _⟩) (v := ?_) rfl (by kernel_rfl) (by kernel_rfl) (by kernel_rfl) (fun _ _ _ h => h) (Or.inl ⟨by rfl, ?_⟩) (by assumption) ?_
  rotate_left
  · intro w hSw; (try dsimp only at hSw); go_simp; (try (with_reducible rfl)); done
  simp only [Act.put, List.setIfInBounds_toArray]; dsimp only [List.set_cons_zero, List.set_cons_succ]
  refine wpAnyH_ready (rs := [8]) (by kernel_rfl) (by simp) ?_
  refine AllReadyH.cons (o := ⟨_, _, _, _, _, _⟩) rfl (fun K hK => ?_) AllReadyH.nil
  go_simp
  refine hK.out _ _ ?_ (fun hHeld => ?_)
  · ((try dsimp only) <;> (first | exact ⟨r0, F.drew⟩ | exact ⟨keep_fr f5 hHeld.1, hHeld.2.trans' f5⟩ | exact ⟨keep_alloc hHeld.1, hHeld.2.alloc _⟩ | exact ⟨keep_row (by have := HG0.out; omega) hHeld.1, hHeld.2.setRow (fun h => by have := HG0.out; omega) _⟩))
  clear hK K
  try (simp only [Act.put, List.setIfInBounds_toArray]; dsimp only [List.set_cons_zero, List.set_cons_succ])
  refine wpAnyH_ready (rs := [10]) (by kernel_rfl) (by simp) ?_
  refine AllReadyH.cons (o := ⟨_, _, _, _, _, _⟩) rfl (fun K hK => ?_) AllReadyH.nil
  go_simp
  (try (rw [rowIn_of (old := rowN .u64 64 4 0) (t' := 24) (by ((try rw [← Array.getElem?_eq_getElem]); repeat (first | exact heap_alloc_new _ _ | exact heap_alloc2_new _ _ _ | refine keep_alloc ?_ | refine keep_fr (by assumption) ?_))) (rowN_size _ _ _ _) (rowN_size _ _ _ _) (rowN_rowOne _ _ _ _)]; go_simp))
  refine hK.out _ _ ?_ (fun hHeld => ?_)
  · ((try dsimp only) <;> (first | exact ⟨r0, F.drew⟩ | exact ⟨keep_fr f5 hHeld.1, hHeld.2.trans' f5⟩ | exact ⟨keep_alloc hHeld.1, hHeld.2.alloc _⟩ | exact ⟨keep_row (by have := HG0.out; omega) hHeld.1, hHeld.2.setRow (fun h => by have := HG0.out; omega) _⟩))
  clear hK K
  try (simp only [Act.put, List.setIfInBounds_toArray]; dsimp only [List.set_cons_zero, List.set_cons_succ])
  refine wpAnyH_ready (rs := [11]) (by kernel_rfl) (by simp) ?_
  refine AllReadyH.cons (o := ⟨_, _, _, _, _, _⟩) rfl (fun K hK => ?_) AllReadyH.nil
  go_simp
  (try (rw [rowIn_of (old := rowN .u64 64 4 0) (t' := 24) (by ((try rw [← Array.getElem?_eq_getElem]); repeat (first | exact heap_alloc_new _ _ | exact heap_alloc2_new _ _ _ | refine keep_row (by (try simp only [World.size_alloc]); omega) ?_ | refine keep_alloc ?_ | refine keep_fr (by assumption) ?_))) (rowN_size _ _ _ _) (rowN_size _ _ _ _) (rowN_rowOne _ _ _ _)]; go_simp))
  refine hK.out _ _ ?_ (fun hHeld => ?_)
  · ((try dsimp only) <;> (first | exact ⟨r0, F.drew⟩ | exact ⟨keep_fr f5 hHeld.1, hHeld.2.trans' f5⟩ | exact ⟨keep_alloc hHeld.1, hHeld.2.alloc _⟩ | exact ⟨keep_row (by have := HG0.out; omega) hHeld.1, hHeld.2.setRow (fun h => by have := HG0.out; omega) _⟩))
  clear hK K
  try (simp only [Act.put, List.setIfInBounds_toArray]; dsimp only [List.set_cons_zero, List.set_cons_succ])
  refine wpAnyH_take (i := 12) (oi := ⟨_, _, _, _, _, _⟩) (v := ?_) rfl (by kernel_rfl) (by kernel_rfl) (by kernel_rfl) (fun _ _ _ h => h) (Or.inl ⟨by rfl, ?_⟩) (by assumption) ?_
  rotate_left
  · intro w hSw; (try dsimp only at hSw); go_simp; (try (with_reducible rfl)); done
  simp only [Act.put, List.setIfInBounds_toArray]; dsimp only [List.set_cons_zero, List.set_cons_succ]
  refine wpAnyH_done (by kernel_rfl) ?_ _
  refine NoPanic.normal ?_
  rotate_left
  go_simp
  refine hK.out _ _ ?_ (fun hHeld => ?_)
  · ((try dsimp only) <;> (first | exact ⟨r0, F.drew⟩ | exact ⟨keep_fr f5 hHeld.1, hHeld.2.trans' f5⟩ | exact ⟨keep_alloc hHeld.1, hHeld.2.alloc _⟩ | exact ⟨keep_row (by have := HG0.out; omega) hHeld.1, hHeld.2.setRow (fun h => by have := HG0.out; omega) _⟩))
  clear hK K
  try (simp only [Act.put, List.setIfInBounds_toArray]; dsimp only [List.set_cons_zero, List.set_cons_succ])
  refine wpAnyH_ready (rs := [3]) (by kernel_rfl) (by simp) ?_
  refine AllReadyH.cons (o := ⟨_, _, _, _, _, _⟩) rfl (fun K hK => ?_) AllReadyH.nil
  go_simp
  (refine (HD.out _).mono ?_; rintro e w5 ⟨rfl, f5⟩; have z5 := f5.size; (try simp only [World.size_alloc, heap_drew'] at z5))
  refine hK.out _ _ ?_ (fun hHeld => ?_)
  · ((try dsimp only) <;> (first | exact ⟨r0, F.drew⟩ | exact ⟨keep_fr f5 hHeld.1, hHeld.2.trans' f5⟩ | exact ⟨keep_alloc hHeld.1, hHeld.2.alloc _⟩ | exact ⟨keep_row (by have := HG0.out; omega) hHeld.1, hHeld.2.setRow (fun h => by have := HG0.out; omega) _⟩))
  clear hK K
  try (simp only [Act.put, List.setIfInBounds_toArray]; dsimp only [List.set_cons_zero, List.set_cons_succ])
  refine wpAnyH_take (i := 4) (oi := ⟨_, _, _, _, _, _⟩) (v := ?_) rfl (by kernel_rfl) (by kernel_rfl) (by kernel_rfl) (fun _ _ _ h => h) (Or.inl ⟨by rfl, ?_⟩) (by assumption) ?_
  rotate_left
  · intro w hSw; (try dsimp only at hSw); go_simp; (try (with_reducible rfl)); done
  simp only [Act.put, List.setIfInBounds_toArray]; dsimp only [List.set_cons_zero, List.set_cons_succ]
  refine wpAnyH_take (i := 5) (oi := ⟨_, _, _, _, _, _⟩) (v := ?_) rfl (by kernel_rfl) (by kernel_rfl) (by kernel_rfl) (fun _ _ _ h => h) (Or.inl ⟨by rfl, ?_⟩) (by assumption) ?_
  rotate_left
  · intro w hSw; (try dsimp only at hSw); go_simp; (try (with_reducible rfl)); done
  simp only [Act.put, List.setIfInBounds_toArray]; dsimp only [List.set_cons_zero, List.set_cons_succ]
  refine wpAnyH_take (i := 6) (oi := ⟨_, _, _, _, _, _⟩) (v := ?_) rfl (by kernel_rfl) (by kernel_rfl) (by kernel_rfl) (fun _ _ _ h => h) (Or.inl ⟨by rfl, ?_⟩) (by assumption) ?_
  rotate_left
  · intro w hSw; (try dsimp only at hSw); go_simp; (try (with_reducible rfl)); done
  simp only [Act.put, List.setIfInBounds_toArray]; dsimp only [List.set_cons_zero, List.set_cons_succ]
  refine wpAnyH_take (i := 7) (oi := ⟨_, _, _, _, _, _⟩) (v := ?_) rfl (by kernel_rfl) (by kernel_rfl) (by kernel_rfl) (fun _ _ _ h => h) (Or.inl ⟨by rfl, ?_⟩) (by assumption) ?_
  rotate_left
  · intro w hSw; (try dsimp only at hSw); go_simp; (try (with_reducible rfl)); done
  simp only [Act.put, List.setIfInBounds_toArray]; dsimp only [List.set_cons_zero, List.set_cons_succ]
  refine wpAnyH_ready (rs := [10]) (by kernel_rfl) (by simp) ?_
  refine AllReadyH.cons (o := ⟨_, _, _, _, _, _⟩) rfl (fun K hK => ?_) AllReadyH.nil
  go_simp
  (try (rw [rowIn_of (old := rowN .u64 64 4 0) (t' := 24) (by ((try rw [← Array.getElem?_eq_getElem]); repeat (first | exact heap_alloc_new _ _ | exact heap_alloc2_new _ _ _ | refine keep_alloc ?_ | refine keep_fr (by assumption) ?_))) (rowN_size _ _ _ _) (rowN_size _ _ _ _) (rowN_rowOne _ _ _ _)]; go_simp))
  refine hK.out _ _ ?_ (fun hHeld => ?_)
  · ((try dsimp only) <;> (first | exact ⟨r0, F.drew⟩ | exact ⟨keep_fr f5 hHeld.1, hHeld.2.trans' f5⟩ | exact ⟨keep_alloc hHeld.1, hHeld.2.alloc _⟩ | exact ⟨keep_row (by have := HG0.out; omega) hHeld.1, hHeld.2.setRow (fun h => by have := HG0.out; omega) _⟩))
  clear hK K
  try (simp only [Act.put, List.setIfInBounds_toArray]; dsimp only [List.set_cons_zero, List.set_cons_succ])
  refine wpAnyH_ready (rs := [11]) (by kernel_rfl) (by simp) ?_
  refine AllReadyH.cons (o := ⟨_, _, _, _, _, _⟩) rfl (fun K hK => ?_) AllReadyH.nil
  go_simp
  (try (rw [rowIn_of (old := rowN .u64 64 4 0) (t' := 24) (by ((try rw [← Array.getElem?_eq_getElem]); repeat (first | exact heap_alloc_new _ _ | exact heap_alloc2_new _ _ _ | refine keep_row (by (try simp only [World.size_alloc]); omega) ?_ | refine keep_alloc ?_ | refine keep_fr (by assumption) ?_))) (rowN_size _ _ _ _) (rowN_size _ _ _ _) (rowN_rowOne _ _ _ _)]; go_simp))
  refine hK.out _ _ ?_ (fun hHeld => ?_)
  · ((try dsimp only) <;> (first | exact ⟨r0, F.drew⟩ | exact ⟨keep_fr f5 hHeld.1, hHeld.2.trans' f5⟩ | exact ⟨keep_alloc hHeld.1, hHeld.2.alloc _⟩ | exact ⟨keep_row (by have := HG0.out; omega) hHeld.1, hHeld.2.setRow (fun h => by have := HG0.out; omega) _⟩))
  clear hK K
  try (simp only [Act.put, List.setIfInBounds_toArray]; dsimp only [List.set_cons_zero, List.set_cons_succ])
  refine wpAnyH_take (i := 12) (oi := ⟨_, _, _, _, _, _⟩) (v := ?_) rfl (by kernel_rfl) (by kernel_rfl) (by kernel_rfl) (fun _ _ _ h => h) (Or.inl ⟨by rfl, ?_⟩) (by assumption) ?_
  rotate_left
  · intro w hSw; (try dsimp only at hSw); go_simp; (try (with_reducible rfl)); done
  simp only [Act.put, List.setIfInBounds_toArray]; dsimp only [List.set_cons_zero, List.set_cons_succ]
  refine wpAnyH_done (by kernel_rfl) ?_ _
  refine NoPanic.normal ?_
  rotate_left
  go_simp
  refine hK.out _ _ ?_ (fun hHeld => ?_)
  · ((try dsimp only) <;> (first | exact ⟨r0, F.drew⟩ | exact ⟨keep_fr f5 hHeld.1, hHeld.2.trans' f5⟩ | exact ⟨keep_alloc hHeld.1, hHeld.2.alloc _⟩ | exact ⟨keep_row (by have := HG0.out; omega) hHeld.1, hHeld.2.setRow (fun h => by have := HG0.out; omega) _⟩))
  clear hK K
  try (simp only [Act.put, List.setIfInBounds_toArray]; dsimp only [List.set_cons_zero, List.set_cons_succ])
  refine wpAnyH_ready (rs := [2, 9]) (by kernel_rfl) (by simp) ?_
  refine AllReadyH.cons (o := ⟨_, _, _, _, _, _⟩) rfl (fun K hK => ?_) (AllReadyH.cons (o := ⟨_, _, _, _, _, _⟩) rfl (fun K hK => ?_) AllReadyH.nil)
  go_simp
  (refine (HO.out _).mono ?_; rintro e w5 ⟨rfl, f5⟩; have z5 := f5.size; (try simp only [World.size_alloc, heap_drew'] at z5))
  refine hK.out _ _ ?_ (fun hHeld => ?_)
  · ((try dsimp only) <;> (first | exact ⟨r0, F.drew⟩ | exact ⟨keep_fr f5 hHeld.1, hHeld.2.trans' f5⟩ | exact ⟨keep_alloc hHeld.1, hHeld.2.alloc _⟩ | exact ⟨keep_row (by have := HG0.out; omega) hHeld.1, hHeld.2.setRow (fun h => by have := HG0.out; omega) _⟩))
  clear hK K
  try (simp only [Act.put, List.setIfInBounds_toArray]; dsimp only [List.set_cons_zero, List.set_cons_succ])
  refine wpAnyH_ready (rs := [3, 9]) (by kernel_rfl) (by simp) ?_
  refine AllReadyH.cons (o := ⟨_, _, _, _, _, _⟩) rfl (fun K hK => ?_) (AllReadyH.cons (o := ⟨_, _, _, _, _, _⟩) rfl (fun K hK => ?_) AllReadyH.nil)
  go_simp
  (refine (HD.out _).mono ?_; rintro e w5 ⟨rfl, f5⟩; have z5 := f5.size; (try simp only [World.size_alloc, heap_drew'] at z5))
  refine hK.out _ _ ?_ (fun hHeld => ?_)
  · ((try dsimp only) <;> (first | exact ⟨r0, F.drew⟩ | exact ⟨keep_fr f5 hHeld.1, hHeld.2.trans' f5⟩ | exact ⟨keep_alloc hHeld.1, hHeld.2.alloc _⟩ | exact ⟨keep_row (by have := HG0.out; omega) hHeld.1, hHeld.2.setRow (fun h => by have := HG0.out; omega) _⟩))
  clear hK K
  try (simp only [Act.put, List.setIfInBounds_toArray]; dsimp only [List.set_cons_zero, List.set_cons_succ])
  refine wpAnyH_take (i := 4) (oi := ⟨_, _, _, _, _, _⟩) (v := ?_) rfl (by kernel_rfl) (by kernel_rfl) (by kernel_rfl) (fun _ _ _ h => h) (Or.inl ⟨by rfl, ?_⟩) (by assumption) ?_
  rotate_left
  · intro w hSw; (try dsimp only at hSw); go_simp; (try (with_reducible rfl)); done
  simp only [Act.put, List.setIfInBounds_toArray]; dsimp only [List.set_cons_zero, List.set_cons_succ]
  refine wpAnyH_take (i := 5) (oi := ⟨_, _, _, _, _, _⟩) (v := ?_) rfl (by kernel_rfl) (by kernel_rfl) (by kernel_rfl) (fun _ _ _ h => h) (Or.inl ⟨by rfl, ?_⟩) (by assumption) ?_
  rotate_left
  · intro w hSw; (try dsimp only at hSw); go_simp; (try (with_reducible rfl)); done
  simp only [Act.put, List.setIfInBounds_toArray]; dsimp only [List.set_cons_zero, List.set_cons_succ]
  refine wpAnyH_take (i := 6) (oi := ⟨_, _, _, _, _, _⟩) (v := ?_) rfl (by kernel_rfl) (by kernel_rfl) (by kernel_rfl) (fun _ _ _ h => h) (Or.inl ⟨by rfl, ?_⟩) (by assumption) ?_
  rotate_left
  · intro w hSw; (try dsimp only at hSw); go_simp; (try (with_reducible rfl)); done
  simp only [Act.put, List.setIfInBounds_toArray]; dsimp only [List.set_cons_zero, List.set_cons_succ]
  refine wpAnyH_take (i := 7) (oi := ⟨_, _, _, _, _, _⟩) (v := ?_) rfl (by kernel_rfl) (by kernel_rfl) (by kernel_rfl) (fun _ _ _ h => h) (Or.inl ⟨by rfl, ?_⟩) (by assumption) ?_
  rotate_left
  · intro w hSw; (try dsimp only at hSw); go_simp; (try (with_reducible rfl)); done
  simp only [Act.put, List.setIfInBounds_toArray]; dsimp only [List.set_cons_zero, List.set_cons_succ]
  refine wpAnyH_ready (rs := [9]) (by kernel_rfl) (by simp) ?_
  refine AllReadyH.cons (o := ⟨_, _, _, _, _, _⟩) rfl (fun K hK => ?_) AllReadyH.nil
  go_simp
  refine hK.out _ _ ?_ (fun hHeld => ?_)
  · ((try dsimp only) <;> (first | exact ⟨r0, F.drew⟩ | exact ⟨keep_fr f5 hHeld.1, hHeld.2.trans' f5⟩ | exact ⟨keep_alloc hHeld.1, hHeld.2.alloc _⟩ | exact ⟨keep_row (by have := HG0.out; omega) hHeld.1, hHeld.2.setRow (fun h => by have := HG0.out; omega) _⟩))
  clear hK K
  try (simp only [Act.put, List.setIfInBounds_toArray]; dsimp only [List.set_cons_zero, List.set_cons_succ])
  refine wpAnyH_ready (rs := [10]) (by kernel_rfl) (by simp) ?_
  refine AllReadyH.cons (o := ⟨_, _, _, _, _, _⟩) rfl (fun K hK => ?_) AllReadyH.nil
  go_simp
  (try (rw [rowIn_of (old := rowN .u64 64 4 0) (t' := 24) (by ((try rw [← Array.getElem?_eq_getElem]); repeat (first | exact heap_alloc_new _ _ | exact heap_alloc2_new _ _ _ | refine keep_alloc ?_ | refine keep_fr (by assumption) ?_))) (rowN_size _ _ _ _) (rowN_size _ _ _ _) (rowN_rowOne _ _ _ _)]; go_simp))
  refine hK.out _ _ ?_ (fun hHeld => ?_)
  · ((try dsimp only) <;> (first | exact ⟨r0, F.drew⟩ | exact ⟨keep_fr f5 hHeld.1, hHeld.2.trans' f5⟩ | exact ⟨keep_alloc hHeld.1, hHeld.2.alloc _⟩ | exact ⟨keep_row (by have := HG0.out; omega) hHeld.1, hHeld.2.setRow (fun h => by have := HG0.out; omega) _⟩))
  clear hK K
  try (simp only [Act.put, List.setIfInBounds_toArray]; dsimp only [List.set_cons_zero, List.set_cons_succ])
  refine wpAnyH_ready (rs := [11]) (by kernel_rfl) (by simp) ?_
  refine AllReadyH.cons (o := ⟨_, _, _, _, _, _⟩) rfl (fun K hK => ?_) AllReadyH.nil
  go_simp
  (try (rw [rowIn_of (old := rowN .u64 64 4 0) (t' := 24) (by ((try rw [← Array.getElem?_eq_getElem]); repeat (first | exact heap_alloc_new _ _ | exact heap_alloc2_new _ _ _ | refine keep_row (by (try simp only [World.size_alloc]); omega) ?_ | refine keep_alloc ?_ | refine keep_fr (by assumption) ?_))) (rowN_size _ _ _ _) (rowN_size _ _ _ _) (rowN_rowOne _ _ _ _)]; go_simp))
  refine hK.out _ _ ?_ (fun hHeld => ?_)
  · ((try dsimp only) <;> (first | exact ⟨r0, F.drew⟩ | exact ⟨keep_fr f5 hHeld.1, hHeld.2.trans' f5⟩ | exact ⟨keep_alloc hHeld.1, hHeld.2.alloc _⟩ | exact ⟨keep_row (by have := HG0.out; omega) hHeld.1, hHeld.2.setRow (fun h => by have := HG0.out; omega) _⟩))
  clear hK K
  try (simp only [Act.put, List.setIfInBounds_toArray]; dsimp only [List.set_cons_zero, List.set_cons_succ])
  refine wpAnyH_take (i := 12) (oi := ⟨_, _, _, _, _, _⟩) (v := ?_) rfl (by kernel_rfl) (by kernel_rfl) (by kernel_rfl) (fun _ _ _ h => h) (Or.inl ⟨by rfl, ?_⟩) (by assumption) ?_
  rotate_left
  · intro w hSw; (try dsimp only at hSw); go_simp; (try (with_reducible rfl)); done
  simp only [Act.put, List.setIfInBounds_toArray]; dsimp only [List.set_cons_zero, List.set_cons_succ]
  refine wpAnyH_done (by kernel_rfl) ?_ _
  refine NoPanic.normal ?_
  rotate_left
  go_simp
  refine hK.out _ _ ?_ (fun hHeld => ?_)
  · ((try dsimp only) <;> (first | exact ⟨r0, F.drew⟩ | exact ⟨keep_fr f5 hHeld.1, hHeld.2.trans' f5⟩ | exact ⟨keep_alloc hHeld.1, hHeld.2.alloc _⟩ | exact ⟨keep_row (by have := HG0.out; omega) hHeld.1, hHeld.2.setRow (fun h => by have := HG0.out; omega) _⟩))
  clear hK K
  try (simp only [Act.put, List.setIfInBounds_toArray]; dsimp only [List.set_cons_zero, List.set_cons_succ])
  refine wpAnyH_ready (rs := [3]) (by kernel_rfl) (by simp) ?_
  refine AllReadyH.cons (o := ⟨_, _, _, _, _, _⟩) rfl (fun K hK => ?_) AllReadyH.nil
  go_simp
  (refine (HD.out _).mono ?_; rintro e w5 ⟨rfl, f5⟩; have z5 := f5.size; (try simp only [World.size_alloc, heap_drew'] at z5))
  refine hK.out _ _ ?_ (fun hHeld => ?_)
  · ((try dsimp only) <;> (first | exact ⟨r0, F.drew⟩ | exact ⟨keep_fr f5 hHeld.1, hHeld.2.trans' f5⟩ | exact ⟨keep_alloc hHeld.1, hHeld.2.alloc _⟩ | exact ⟨keep_row (by have := HG0.out; omega) hHeld.1, hHeld.2.setRow (fun h => by have := HG0.out; omega) _⟩))
  clear hK K
  try (simp only [Act.put, List.setIfInBounds_toArray]; dsimp only [List.set_cons_zero, List.set_cons_succ])
  refine wpAnyH_take (i := 4) (oi := ⟨_, _, _, _, _, _⟩) (v := ?_) rfl (by kernel_rfl) (by kernel_rfl) (by kernel_rfl) (fun _ _ _ h => h) (Or.inl ⟨by rfl, ?_⟩) (by assumption) ?_
  rotate_left
  · intro w hSw; (try dsimp only at hSw); go_simp; (try (with_reducible rfl)); done
  simp only [Act.put, List.setIfInBounds_toArray]; dsimp only [List.set_cons_zero, List.set_cons_succ]
  refine wpAnyH_take (i := 5) (oi := ⟨_, _, _, _, _, _⟩) (v := ?_) rfl (by kernel_rfl) (by kernel_rfl) (by kernel_rfl) (fun _ _ _ h => h) (Or.inl ⟨by rfl, ?_⟩) (by assumption) ?_
  rotate_left
  · intro w hSw; (try dsimp only at hSw); go_simp; (try (with_reducible rfl)); done
  simp only [Act.put, List.setIfInBounds_toArray]; dsimp only [List.set_cons_zero, List.set_cons_succ]
  refine wpAnyH_take (i := 6) (oi := ⟨_, _, _, _, _, _⟩) (v := ?_) rfl (by kernel_rfl) (by kernel_rfl) (by kernel_rfl) (fun _ _ _ h => h) (Or.inl ⟨by rfl, ?_⟩) (by assumption) ?_
  rotate_left
  · intro w hSw; (try dsimp only at hSw); go_simp; (try (with_reducible rfl)); done
  simp only [Act.put, List.setIfInBounds_toArray]; dsimp only [List.set_cons_zero, List.set_cons_succ]
  refine wpAnyH_take (i := 7) (oi := ⟨_, _, _, _, _, _⟩) (v := ?_) rfl (by kernel_rfl) (by kernel_rfl) (by kernel_rfl) (fun _ _ _ h => h) (Or.inl ⟨by rfl, ?_⟩) (by assumption) ?_
  rotate_left
  · intro w hSw; (try dsimp only at hSw); go_simp; (try (with_reducible rfl)); done
  simp only [Act.put, List.setIfInBounds_toArray]; dsimp only [List.set_cons_zero, List.set_cons_succ]
  refine wpAnyH_ready (rs := [10]) (by kernel_rfl) (by simp) ?_
  refine AllReadyH.cons (o := ⟨_, _, _, _, _, _⟩) rfl (fun K hK => ?_) AllReadyH.nil
  go_simp
  (try (rw [rowIn_of (old := rowN .u64 64 4 0) (t' := 24) (by ((try rw [← Array.getElem?_eq_getElem]); repeat (first | exact heap_alloc_new _ _ | exact heap_alloc2_new _ _ _ | refine keep_alloc ?_ | refine keep_fr (by assumption) ?_))) (rowN_size _ _ _ _) (rowN_size _ _ _ _) (rowN_rowOne _ _ _ _)]; go_simp))
  refine hK.out _ _ ?_ (fun hHeld => ?_)
  · ((try dsimp only) <;> (first | exact ⟨r0, F.drew⟩ | exact ⟨keep_fr f5 hHeld.1, hHeld.2.trans' f5⟩ | exact ⟨keep_alloc hHeld.1, hHeld.2.alloc _⟩ | exact ⟨keep_row (by have := HG0.out; omega) hHeld.1, hHeld.2.setRow (fun h => by have := HG0.out; omega) _⟩))
  clear hK K
  try (simp only [Act.put, List.setIfInBounds_toArray]; dsimp only [List.set_cons_zero, List.set_cons_succ])
  refine wpAnyH_ready (rs := [11]) (by kernel_rfl) (by simp) ?_
  refine AllReadyH.cons (o := ⟨_, _, _, _, _, _⟩) rfl (fun K hK => ?_) AllReadyH.nil
  go_simp
  (try (rw [rowIn_of (old := rowN .u64 64 4 0) (t' := 24) (by ((try rw [← Array.getElem?_eq_getElem]); repeat (first | exact heap_alloc_new _ _ | exact heap_alloc2_new _ _ _ | refine keep_row (by (try simp only [World.size_alloc]); omega) ?_ | refine keep_alloc ?_ | refine keep_fr (by assumption) ?_))) (rowN_size _ _ _ _) (rowN_size _ _ _ _) (rowN_rowOne _ _ _ _)]; go_simp))
  refine hK.out _ _ ?_ (fun hHeld => ?_)
  · ((try dsimp only) <;> (first | exact ⟨r0, F.drew⟩ | exact ⟨keep_fr f5 hHeld.1, hHeld.2.trans' f5⟩ | exact ⟨keep_alloc hHeld.1, hHeld.2.alloc _⟩ | exact ⟨keep_row (by have := HG0.out; omega) hHeld.1, hHeld.2.setRow (fun h => by have := HG0.out; omega) _⟩))
  clear hK K
  try (simp only [Act.put, List.setIfInBounds_toArray]; dsimp only [List.set_cons_zero, List.set_cons_succ])
  refine wpAnyH_take (i := 12) (oi := ⟨_, _, _, _, _, _⟩) (v := ?_) rfl (by kernel_rfl) (by kernel_rfl) (by kernel_rfl) (fun _ _ _ h => h) (Or.inl ⟨by rfl, ?_⟩) (by assumption) ?_
  rotate_left
  · intro w hSw; (try dsimp only at hSw); go_simp; (try (with_reducible rfl)); done
  simp only [Act.put, List.setIfInBounds_toArray]; dsimp only [List.set_cons_zero, List.set_cons_succ]
  refine wpAnyH_done (by kernel_rfl) ?_ _
  refine NoPanic.normal ?_
  rotate_left
  go_simp
  refine hK.out _ _ ?_ (fun hHeld => ?_)
  · ((try dsimp only) <;> (first | exact ⟨r0, F.drew⟩ | exact ⟨keep_fr f5 hHeld.1, hHeld.2.trans' f5⟩ | exact ⟨keep_alloc hHeld.1, hHeld.2.alloc _⟩ | exact ⟨keep_row (by have := HG0.out; omega) hHeld.1, hHeld.2.setRow (fun h => by have := HG0.out; omega) _⟩))
  clear hK K
  try (simp only [Act.put, List.setIfInBounds_toArray]; dsimp only [List.set_cons_zero, List.set_cons_succ])
  refine wpAnyH_ready (rs := [2]) (by kernel_rfl) (by simp) ?_
  refine AllReadyH.cons (o := ⟨_, _, _, _, _, _⟩) rfl (fun K hK => ?_) AllReadyH.nil
  go_simp
  (refine (HO.out _).mono ?_; rintro e w5 ⟨rfl, f5⟩; have z5 := f5.size; (try simp only [World.size_alloc, heap_drew'] at z5))
  refine hK.out _ _ ?_ (fun hHeld => ?_)
  · ((try dsimp only) <;> (first | exact ⟨r0, F.drew⟩ | exact ⟨keep_fr f5 hHeld.1, hHeld.2.trans' f5⟩ | exact ⟨keep_alloc hHeld.1, hHeld.2.alloc _⟩ | exact ⟨keep_row (by have := HG0.out; omega) hHeld.1, hHeld.2.setRow (fun h => by have := HG0.out; omega) _⟩))
  clear hK K
  try (simp only [Act.put, List.setIfInBounds_toArray]; dsimp only [List.set_cons_zero, List.set_cons_succ])
  refine wpAnyH_ready (rs := [3]) (by kernel_rfl) (by simp) ?_
  refine AllReadyH.cons (o := ⟨_, _, _, _, _, _⟩) rfl (fun K hK => ?_) AllReadyH.nil
  go_simp
  (refine (HD.out _).mono ?_; rintro e w5 ⟨rfl, f5⟩; have z5 := f5.size; (try simp only [World.size_alloc, heap_drew'] at z5))
  refine hK.out _ _ ?_ (fun hHeld => ?_)
  · ((try dsimp only) <;> (first | exact ⟨r0, F.drew⟩ | exact ⟨keep_fr f5 hHeld.1, hHeld.2.trans' f5⟩ | exact ⟨keep_alloc hHeld.1, hHeld.2.alloc _⟩ | exact ⟨keep_row (by have := HG0.out; omega) hHeld.1, hHeld.2.setRow (fun h => by have := HG0.out; omega) _⟩))
  clear hK K
  try (simp only [Act.put, List.setIfInBounds_toArray]; dsimp only [List.set_cons_zero, List.set_cons_succ])
  refine wpAnyH_take (i := 4) (oi := ⟨_, _, _, _, _, _⟩) (v := ?_) rfl (by kernel_rfl) (by kernel_rfl) (by kernel_rfl) (fun _ _ _ h => h) (Or.inl ⟨by rfl, ?_⟩) (by assumption) ?_
  rotate_left
  · intro w hSw; (try dsimp only at hSw); go_simp; (try (with_reducible rfl)); done
  simp only [Act.put, List.setIfInBounds_toArray]; dsimp only [List.set_cons_zero, List.set_cons_succ]
  refine wpAnyH_take (i := 5) (oi := ⟨_, _, _, _, _, _⟩) (v := ?_) rfl (by kernel_rfl) (by kernel_rfl) (by kernel_rfl) (fun _ _ _ h => h) (Or.inl ⟨by rfl, ?_⟩) (by assumption) ?_
  rotate_left
  · intro w hSw; (try dsimp only at hSw); go_simp; (try (with_reducible rfl)); done
  simp only [Act.put, List.setIfInBounds_toArray]; dsimp only [List.set_cons_zero, List.set_cons_succ]
  refine wpAnyH_take (i := 6) (oi := ⟨_, _, _, _, _, _⟩) (v := ?_) rfl (by kernel_rfl) (by kernel_rfl) (by kernel_rfl) (fun _ _ _ h => h) (Or.inl ⟨by rfl, ?_⟩) (by assumption) ?_
  rotate_left
  · intro w hSw; (try dsimp only at hSw); go_simp; (try (with_reducible rfl)); done
  simp only [Act.put, List.setIfInBounds_toArray]; dsimp only [List.set_cons_zero, List.set_cons_succ]
  refine wpAnyH_take (i := 7) (oi := ⟨_, _, _, _, _, _⟩) (v := ?_) rfl (by kernel_rfl) (by kernel_rfl) (by kernel_rfl) (fun _ _ _ h => h) (Or.inl ⟨by rfl, ?_⟩) (by assumption) ?_
  rotate_left
  · intro w hSw; (try dsimp only at hSw); go_simp; (try (with_reducible rfl)); done
  simp only [Act.put, List.setIfInBounds_toArray]; dsimp only [List.set_cons_zero, List.set_cons_succ]
  refine wpAnyH_ready (rs := [10]) (by kernel_rfl) (by simp) ?_
  refine AllReadyH.cons (o := ⟨_, _, _, _, _, _⟩) rfl (fun K hK => ?_) AllReadyH.nil
  go_simp
  (try (rw [rowIn_of (old := rowN .u64 64 4 0) (t' := 24) (by ((try rw [← Array.getElem?_eq_getElem]); repeat (first | exact heap_alloc_new _ _ | exact heap_alloc2_new _ _ _ | refine keep_alloc ?_ | refine keep_fr (by assumption) ?_))) (rowN_size _ _ _ _) (rowN_size _ _ _ _) (rowN_rowOne _ _ _ _)]; go_simp))
  refine hK.out _ _ ?_ (fun hHeld => ?_)
  · ((try dsimp only) <;> (first | exact ⟨r0, F.drew⟩ | exact ⟨keep_fr f5 hHeld.1, hHeld.2.trans' f5⟩ | exact ⟨keep_alloc hHeld.1, hHeld.2.alloc _⟩ | exact ⟨keep_row (by have := HG0.out; omega) hHeld.1, hHeld.2.setRow (fun h => by have := HG0.out; omega) _⟩))
  clear hK K
  try (simp only [Act.put, List.setIfInBounds_toArray]; dsimp only [List.set_cons_zero, List.set_cons_succ])
  refine wpAnyH_ready (rs := [11]) (by kernel_rfl) (by simp) ?_
  refine AllReadyH.cons (o := ⟨_, _, _, _, _, _⟩) rfl (fun K hK => ?_) AllReadyH.nil
  go_simp
  (try (rw [rowIn_of (old := rowN .u64 64 4 0) (t' := 24) (by ((try rw [← Array.getElem?_eq_getElem]); repeat (first | exact heap_alloc_new _ _ | exact heap_alloc2_new _ _ _ | refine keep_row (by (try simp only [World.size_alloc]); omega) ?_ | refine keep_alloc ?_ | refine keep_fr (by assumption) ?_))) (rowN_size _ _ _ _) (rowN_size _ _ _ _) (rowN_rowOne _ _ _ _)]; go_simp))
  refine hK.out _ _ ?_ (fun hHeld => ?_)
  · ((try dsimp only) <;> (first | exact ⟨r0, F.drew⟩ | exact ⟨keep_fr f5 hHeld.1, hHeld.2.trans' f5⟩ | exact ⟨keep_alloc hHeld.1, hHeld.2.alloc _⟩ | exact ⟨keep_row (by have := HG0.out; omega) hHeld.1, hHeld.2.setRow (fun h => by have := HG0.out; omega) _⟩))
  clear hK K
  try (simp only [Act.put, List.setIfInBounds_toArray]; dsimp only [List.set_cons_zero, List.set_cons_succ])
  refine wpAnyH_take (i := 12) (oi := ⟨_, _, _, _, _, _⟩) (v := ?_) rfl (by kernel_rfl) (by kernel_rfl) (by kernel_rfl) (fun _ _ _ h => h) (Or.inl ⟨by rfl, ?_⟩) (by assumption) ?_
  rotate_left
  · intro w hSw; (try dsimp only at hSw); go_simp; (try (with_reducible rfl)); done
  simp only [Act.put, List.setIfInBounds_toArray]; dsimp only [List.set_cons_zero, List.set_cons_succ]
  refine wpAnyH_done (by kernel_rfl) ?_ _
  refine NoPanic.normal ?_
  rotate_left
  go_simp
  refine hK.out _ _ ?_ (fun hHeld => ?_)
  · ((try dsimp only) <;> (first | exact ⟨r0, F.drew⟩ | exact ⟨keep_fr f5 hHeld.1, hHeld.2.trans' f5⟩ | exact ⟨keep_alloc hHeld.1, hHeld.2.alloc _⟩ | exact ⟨keep_row (by have := HG0.out; omega) hHeld.1, hHeld.2.setRow (fun h => by have := HG0.out; omega) _⟩))
  clear hK K
  try (simp only [Act.put, List.setIfInBounds_toArray]; dsimp only [List.set_cons_zero, List.set_cons_succ])
  refine wpAnyH_ready (rs := [2, 8]) (by kernel_rfl) (by simp) ?_
  refine AllReadyH.cons (o := ⟨_, _, _, _, _, _⟩) rfl (fun K hK => ?_) (AllReadyH.cons (o := ⟨_, _, _, _, _, _⟩) rfl (fun K hK => ?_) AllReadyH.nil)
  go_simp
  (refine (HO.out _).mono ?_; rintro e w5 ⟨rfl, f5⟩; have z5 := f5.size; (try simp only [World.size_alloc, heap_drew'] at z5))
  refine hK.out _ _ ?_ (fun hHeld => ?_)
  · ((try dsimp only) <;> (first | exact ⟨r0, F.drew⟩ | exact ⟨keep_fr f5 hHeld.1, hHeld.2.trans' f5⟩ | exact ⟨keep_alloc hHeld.1, hHeld.2.alloc _⟩ | exact ⟨keep_row (by have := HG0.out; omega) hHeld.1, hHeld.2.setRow (fun h => by have := HG0.out; omega) _⟩))
  clear hK K
  try (simp only [Act.put, List.setIfInBounds_toArray]; dsimp only [List.set_cons_zero, List.set_cons_succ])
  refine wpAnyH_ready (rs := [3, 8]) (by kernel_rfl) (by simp) ?_
  refine AllReadyH.cons (o := ⟨_, _, _, _, _, _⟩) rfl (fun K hK => ?_) (AllReadyH.cons (o := ⟨_, _, _, _, _, _⟩) rfl (fun K hK => ?_) AllReadyH.nil)
  go_simp
  (refine (HD.out _).mono ?_; rintro e w5 ⟨rfl, f5⟩; have z5 := f5.size; (try simp only [World.size_alloc, heap_drew'] at z5))
  refine hK.out _ _ ?_ (fun hHeld => ?_)
  · ((try dsimp only) <;> (first | exact ⟨r0, F.drew⟩ | exact ⟨keep_fr f5 hHeld.1, hHeld.2.trans' f5⟩ | exact ⟨keep_alloc hHeld.1, hHeld.2.alloc _⟩ | exact ⟨keep_row (by have := HG0.out; omega) hHeld.1, hHeld.2.setRow (fun h => by have := HG0.out; omega) _⟩))
  clear hK K
  try (simp only [Act.put, List.setIfInBounds_toArray]; dsimp only [List.set_cons_zero, List.set_cons_succ])
  refine wpAnyH_take (i := 4) (oi := ⟨_, _, _, _, _, _⟩) (v := ?_) rfl (by kernel_rfl) (by kernel_rfl) (by kernel_rfl) (fun _ _ _ h => h) (Or.inl ⟨by rfl, ?_⟩) (by assumption) ?_
  rotate_left
  · intro w hSw; (try dsimp only at hSw); go_simp; (try (with_reducible rfl)); done
  simp only [Act.put, List.setIfInBounds_toArray]; dsimp only [List.set_cons_zero, List.set_cons_succ]
  refine wpAnyH_take (i := 5) (oi := ⟨_, _, _, _, _, _⟩) (v := ?_) rfl (by kernel_rfl) (by kernel_rfl) (by kernel_rfl) (fun _ _ _ h => h) (Or.inl ⟨by rfl, ?_⟩) (by assumption) ?_
  rotate_left
  · intro w hSw; (try dsimp only at hSw); go_simp; (try (with_reducible rfl)); done
  simp only [Act.put, List.setIfInBounds_toArray]; dsimp only [List.set_cons_zero, List.set_cons_succ]
  refine wpAnyH_take (i := 6) (oi := ⟨_, _, _, _, _, _⟩) (v := ?_) rfl (by kernel_rfl) (by kernel_rfl) (by kernel_rfl) (fun _ _ _ h => h) (Or.inl ⟨by rfl, ?_⟩) (by assumption) ?_
  rotate_left
  · intro w hSw; (try dsimp only at hSw); go_simp; (try (with_reducible rfl)); done
  simp only [Act.put, List.setIfInBounds_toArray]; dsimp only [List.set_cons_zero, List.set_cons_succ]
  refine wpAnyH_take (i := 7) (oi := ⟨_, _, _, _, _, _⟩) (v := ?_) rfl (by kernel_rfl) (by kernel_rfl) (by kernel_rfl) (fun _ _ _ h => h) (Or.inl ⟨by rfl, ?_⟩) (by assumption) ?_
  rotate_left
  · intro w hSw; (try dsimp only at hSw); go_simp; (try (with_reducible rfl)); done
  simp only [Act.put, List.setIfInBounds_toArray]; dsimp only [List.set_cons_zero, List.set_cons_succ]
  refine wpAnyH_ready (rs := [8]) (by kernel_rfl) (by simp) ?_
  refine AllReadyH.cons (o := ⟨_, _, _, _, _, _⟩) rfl (fun K hK => ?_) AllReadyH.nil
  go_simp
  refine hK.out _ _ ?_ (fun hHeld => ?_)
  · ((try dsimp only) <;> (first | exact ⟨r0, F.drew⟩ | exact ⟨keep_fr f5 hHeld.1, hHeld.2.trans' f5⟩ | exact ⟨keep_alloc hHeld.1, hHeld.2.alloc _⟩ | exact ⟨keep_row (by have := HG0.out; omega) hHeld.1, hHeld.2.setRow (fun h => by have := HG0.out; omega) _⟩))
  clear hK K
  try (simp only [Act.put, List.setIfInBounds_toArray]; dsimp only [List.set_cons_zero, List.set_cons_succ])
  refine wpAnyH_ready (rs := [10]) (by kernel_rfl) (by simp) ?_
  refine AllReadyH.cons (o := ⟨_, _, _, _, _, _⟩) rfl (fun K hK => ?_) AllReadyH.nil
  go_simp
  (try (rw [rowIn_of (old := rowN .u64 64 4 0) (t' := 24) (by ((try rw [← Array.getElem?_eq_getElem]); repeat (first | exact heap_alloc_new _ _ | exact heap_alloc2_new _ _ _ | refine keep_alloc ?_ | refine keep_fr (by assumption) ?_))) (rowN_size _ _ _ _) (rowN_size _ _ _ _) (rowN_rowOne _ _ _ _)]; go_simp))
  refine hK.out _ _ ?_ (fun hHeld => ?_)
  · ((try dsimp only) <;> (first | exact ⟨r0, F.drew⟩ | exact ⟨keep_fr f5 hHeld.1, hHeld.2.trans' f5⟩ | exact ⟨keep_alloc hHeld.1, hHeld.2.alloc _⟩ | exact ⟨keep_row (by have := HG0.out; omega) hHeld.1, hHeld.2.setRow (fun h => by have := HG0.out; omega) _⟩))
  clear hK K
  try (simp only [Act.put, List.setIfInBounds_toArray]; dsimp only [List.set_cons_zero, List.set_cons_succ])
  refine wpAnyH_ready (rs := [11]) (by kernel_rfl) (by simp) ?_
  refine AllReadyH.cons (o := ⟨_, _, _, _, _, _⟩) rfl (fun K hK => ?_) AllReadyH.nil
  go_simp
  (try (rw [rowIn_of (old := rowN .u64 64 4 0) (t' := 24) (by ((try rw [← Array.getElem?_eq_getElem]); repeat (first | exact heap_alloc_new _ _ | exact heap_alloc2_new _ _ _ | refine keep_row (by (try simp only [World.size_alloc]); omega) ?_ | refine keep_alloc ?_ | refine keep_fr (by assumption) ?_))) (rowN_size _ _ _ _) (rowN_size _ _ _ _) (rowN_rowOne _ _ _ _)]; go_simp))
  refine hK.out _ _ ?_ (fun hHeld => ?_)
  · ((try dsimp only) <;> (first | exact ⟨r0, F.drew⟩ | exact ⟨keep_fr f5 hHeld.1, hHeld.2.trans' f5⟩ | exact ⟨keep_alloc hHeld.1, hHeld.2.alloc _⟩ | exact ⟨keep_row (by have := HG0.out; omega) hHeld.1, hHeld.2.setRow (fun h => by have := HG0.out; omega) _⟩))
  clear hK K
  try (simp only [Act.put, List.setIfInBounds_toArray]; dsimp only [List.set_cons_zero, List.set_cons_succ])
  refine wpAnyH_take (i := 12) (oi := ⟨_, _, _, _, _, _⟩) (v := ?_) rfl (by kernel_rfl) (by kernel_rfl) (by kernel_rfl) (fun _ _ _ h => h) (Or.inl ⟨by rfl, ?_⟩) (by assumption) ?_
  rotate_left
  · intro w hSw; (try dsimp only at hSw); go_simp; (try (with_reducible rfl)); done
  simp only [Act.put, List.setIfInBounds_toArray]; dsimp only [List.set_cons_zero, List.set_cons_succ]
  refine wpAnyH_done (by kernel_rfl) ?_ _
  refine NoPanic.normal ?_
  rotate_left
  go_simp
  refine hK.out _ _ ?_ (fun hHeld => ?_)
  · ((try dsimp only) <;> (first | exact ⟨r0, F.drew⟩ | exact ⟨keep_fr f5 hHeld.1, hHeld.2.trans' f5⟩ | exact ⟨keep_alloc hHeld.1, hHeld.2.alloc _⟩ | exact ⟨keep_row (by have := HG0.out; omega) hHeld.1, hHeld.2.setRow (fun h => by have := HG0.out; omega) _⟩))
  clear hK K
  try (simp only [Act.put, List.setIfInBounds_toArray]; dsimp only [List.set_cons_zero, List.set_cons_succ])
  refine wpAnyH_ready (rs := [3]) (by kernel_rfl) (by simp) ?_
  refine AllReadyH.cons (o := ⟨_, _, _, _, _, _⟩) rfl (fun K hK => ?_) AllReadyH.nil
  go_simp
  (refine (HD.out _).mono ?_; rintro e w5 ⟨rfl, f5⟩; have z5 := f5.size; (try simp only [World.size_alloc, heap_drew'] at z5))
  refine hK.out _ _ ?_ (fun hHeld => ?_)
  · ((try dsimp only) <;> (first | exact ⟨r0, F.drew⟩ | exact ⟨keep_fr f5 hHeld.1, hHeld.2.trans' f5⟩ | exact ⟨keep_alloc hHeld.1, hHeld.2.alloc _⟩ | exact ⟨keep_row (by have := HG0.out; omega) hHeld.1, hHeld.2.setRow (fun h => by have := HG0.out; omega) _⟩))
  clear hK K
  try (simp only [Act.put, List.setIfInBounds_toArray]; dsimp only [List.set_cons_zero, List.set_cons_succ])
  refine wpAnyH_take (i := 4) (oi := ⟨_, _, _, _, _, _⟩) (v := ?_) rfl (by kernel_rfl) (by kernel_rfl) (by kernel_rfl) (fun _ _ _ h => h) (Or.inl ⟨by rfl, ?_⟩) (by assumption) ?_
  rotate_left
  · intro w hSw; (try dsimp only at hSw); go_simp; (try (with_reducible rfl)); done
  simp only [Act.put, List.setIfInBounds_toArray]; dsimp only [List.set_cons_zero, List.set_cons_succ]
  refine wpAnyH_take (i := 5) (oi := ⟨_, _, _, _, _, _⟩) (v := ?_) rfl (by kernel_rfl) (by kernel_rfl) (by kernel_rfl) (fun _ _ _ h => h) (Or.inl ⟨by rfl, ?_⟩) (by assumption) ?_
  rotate_left
  · intro w hSw; (try dsimp only at hSw); go_simp; (try (with_reducible rfl)); done
  simp only [Act.put, List.setIfInBounds_toArray]; dsimp only [List.set_cons_zero, List.set_cons_succ]
  refine wpAnyH_take (i := 6) (oi := ⟨_, _, _, _, _, _⟩) (v := ?_) rfl (by kernel_rfl) (by kernel_rfl) (by kernel_rfl) (fun _ _ _ h => h) (Or.inl ⟨by rfl, ?_⟩) (by assumption) ?_
  rotate_left
  · intro w hSw; (try dsimp only at hSw); go_simp; (try (with_reducible rfl)); done
  simp only [Act.put, List.setIfInBounds_toArray]; dsimp only [List.set_cons_zero, List.set_cons_succ]
  refine wpAnyH_take (i := 7) (oi := ⟨_, _, _, _, _, _⟩) (v := ?_) rfl (by kernel_rfl) (by kernel_rfl) (by kernel_rfl) (fun _ _ _ h => h) (Or.inl ⟨by rfl, ?_⟩) (by assumption) ?_
  rotate_left
  · intro w hSw; (try dsimp only at hSw); go_simp; (try (with_reducible rfl)); done
  simp only [Act.put, List.setIfInBounds_toArray]; dsimp only [List.set_cons_zero, List.set_cons_succ]
  refine wpAnyH_ready (rs := [10]) (by kernel_rfl) (by simp) ?_
  refine AllReadyH.cons (o := ⟨_, _, _, _, _, _⟩) rfl (fun K hK => ?_) AllReadyH.nil
  go_simp
  (try (rw [rowIn_of (old := rowN .u64 64 4 0) (t' := 24) (by ((try rw [← Array.getElem?_eq_getElem]); repeat (first | exact heap_alloc_new _ _ | exact heap_alloc2_new _ _ _ | refine keep_alloc ?_ | refine keep_fr (by assumption) ?_))) (rowN_size _ _ _ _) (rowN_size _ _ _ _) (rowN_rowOne _ _ _ _)]; go_simp))
  refine hK.out _ _ ?_ (fun hHeld => ?_)
  · ((try dsimp only) <;> (first | exact ⟨r0, F.drew⟩ | exact ⟨keep_fr f5 hHeld.1, hHeld.2.trans' f5⟩ | exact ⟨keep_alloc hHeld.1, hHeld.2.alloc _⟩ | exact ⟨keep_row (by have := HG0.out; omega) hHeld.1, hHeld.2.setRow (fun h => by have := HG0.out; omega) _⟩))
  clear hK K
  try (simp only [Act.put, List.setIfInBounds_toArray]; dsimp only [List.set_cons_zero, List.set_cons_succ])
  refine wpAnyH_ready (rs := [11]) (by kernel_rfl) (by simp) ?_
  refine AllReadyH.cons (o := ⟨_, _, _, _, _, _⟩) rfl (fun K hK => ?_) AllReadyH.nil
  go_simp
  (try (rw [rowIn_of (old := rowN .u64 64 4 0) (t' := 24) (by ((try rw [← Array.getElem?_eq_getElem]); repeat (first | exact heap_alloc_new _ _ | exact heap_alloc2_new _ _ _ | refine keep_row (by (try simp only [World.size_alloc]); omega) ?_ | refine keep_alloc ?_ | refine keep_fr (by assumption) ?_))) (rowN_size _ _ _ _) (rowN_size _ _ _ _) (rowN_rowOne _ _ _ _)]; go_simp))
  refine hK.out _ _ ?_ (fun hHeld => ?_)
  · ((try dsimp only) <;> (first | exact ⟨r0, F.drew⟩ | exact ⟨keep_fr f5 hHeld.1, hHeld.2.trans' f5⟩ | exact ⟨keep_alloc hHeld.1, hHeld.2.alloc _⟩ | exact ⟨keep_row (by have := HG0.out; omega) hHeld.1, hHeld.2.setRow (fun h => by have := HG0.out; omega) _⟩))
  clear hK K
  try (simp only [Act.put, List.setIfInBounds_toArray]; dsimp only [List.set_cons_zero, List.set_cons_succ])
  refine wpAnyH_take (i := 12) (oi := ⟨_, _, _, _, _, _⟩) (v := ?_) rfl (by kernel_rfl) (by kernel_rfl) (by kernel_rfl) (fun _ _ _ h => h) (Or.inl ⟨by rfl, ?_⟩) (by assumption) ?_
  rotate_left
  · intro w hSw; (try dsimp only at hSw); go_simp; (try (with_reducible rfl)); done
  simp only [Act.put, List.setIfInBounds_toArray]; dsimp only [List.set_cons_zero, List.set_cons_succ]
  refine wpAnyH_done (by kernel_rfl) ?_ _
  refine NoPanic.normal ?_
  rotate_left
  go_simp
  refine hK.out _ _ ?_ (fun hHeld => ?_)
  · ((try dsimp only) <;> (first | exact ⟨r0, F.drew⟩ | exact ⟨keep_fr f5 hHeld.1, hHeld.2.trans' f5⟩ | exact ⟨keep_alloc hHeld.1, hHeld.2.alloc _⟩ | exact ⟨keep_row (by have := HG0.out; omega) hHeld.1, hHeld.2.setRow (fun h => by have := HG0.out; omega) _⟩))
  clear hK K
  try (simp only [Act.put, List.setIfInBounds_toArray]; dsimp only [List.set_cons_zero, List.set_cons_succ])
  refine wpAnyH_ready (rs := [2]) (by kernel_rfl) (by simp) ?_
  refine AllReadyH.cons (o := ⟨_, _, _, _, _, _⟩) rfl (fun K hK => ?_) AllReadyH.nil
  go_simp
  (refine (HO.out _).mono ?_; rintro e w5 ⟨rfl, f5⟩; have z5 := f5.size; (try simp only [World.size_alloc, heap_drew'] at z5))
  refine hK.out _ _ ?_ (fun hHeld => ?_)
  · ((try dsimp only) <;> (first | exact ⟨r0, F.drew⟩ | exact ⟨keep_fr f5 hHeld.1, hHeld.2.trans' f5⟩ | exact ⟨keep_alloc hHeld.1, hHeld.2.alloc _⟩ | exact ⟨keep_row (by have := HG0.out; omega) hHeld.1, hHeld.2.setRow (fun h => by have := HG0.out; omega) _⟩))
  clear hK K
  try (simp only [Act.put, List.setIfInBounds_toArray]; dsimp only [List.set_cons_zero, List.set_cons_succ])
  refine wpAnyH_ready (rs := [3]) (by kernel_rfl) (by simp) ?_
  refine AllReadyH.cons (o := ⟨_, _, _, _, _, _⟩) rfl (fun K hK => ?_) AllReadyH.nil
  go_simp
  (refine (HD.out _).mono ?_; rintro e w5 ⟨rfl, f5⟩; have z5 := f5.size; (try simp only [World.size_alloc, heap_drew'] at z5))
  refine hK.out _ _ ?_ (fun hHeld => ?_)
  · ((try dsimp only) <;> (first | exact ⟨r0, F.drew⟩ | exact ⟨keep_fr f5 hHeld.1, hHeld.2.trans' f5⟩ | exact ⟨keep_alloc hHeld.1, hHeld.2.alloc _⟩ | exact ⟨keep_row (by have := HG0.out; omega) hHeld.1, hHeld.2.setRow (fun h => by have := HG0.out; omega) _⟩))
  clear hK K
  try (simp only [Act.put, List.setIfInBounds_toArray]; dsimp only [List.set_cons_zero, List.set_cons_succ])
  refine wpAnyH_take (i := 4) (oi := ⟨_, _, _, _, _, _⟩) (v := ?_) rfl (by kernel_rfl) (by kernel_rfl) (by kernel_rfl) (fun _ _ _ h => h) (Or.inl ⟨by rfl, ?_⟩) (by assumption) ?_
  rotate_left
  · intro w hSw; (try dsimp only at hSw); go_simp; (try (with_reducible rfl)); done
  simp only [Act.put, List.setIfInBounds_toArray]; dsimp only [List.set_cons_zero, List.set_cons_succ]
  refine wpAnyH_take (i := 5) (oi := ⟨_, _, _, _, _, _⟩) (v := ?_) rfl (by kernel_rfl) (by kernel_rfl) (by kernel_rfl) (fun _ _ _ h => h) (Or.inl ⟨by rfl, ?_⟩) (by assumption) ?_
  rotate_left
  · intro w hSw; (try dsimp only at hSw); go_simp; (try (with_reducible rfl)); done
  simp only [Act.put, List.setIfInBounds_toArray]; dsimp only [List.set_cons_zero, List.set_cons_succ]
  refine wpAnyH_take (i := 6) (oi := ⟨_, _, _, _, _, _⟩) (v := ?_) rfl (by kernel_rfl) (by kernel_rfl) (by kernel_rfl) (fun _ _ _ h => h) (Or.inl ⟨by rfl, ?_⟩) (by assumption) ?_
  rotate_left
  · intro w hSw; (try dsimp only at hSw); go_simp; (try (with_reducible rfl)); done
  simp only [Act.put, List.setIfInBounds_toArray]; dsimp only [List.set_cons_zero, List.set_cons_succ]
  refine wpAnyH_take (i := 7) (oi := ⟨_, _, _, _, _, _⟩) (v := ?_) rfl (by kernel_rfl) (by kernel_rfl) (by kernel_rfl) (fun _ _ _ h => h) (Or.inl ⟨by rfl, ?_⟩) (by assumption) ?_
  rotate_left
  · intro w hSw; (try dsimp only at hSw); go_simp; (try (with_reducible rfl)); done
  simp only [Act.put, List.setIfInBounds_toArray]; dsimp only [List.set_cons_zero, List.set_cons_succ]
  refine wpAnyH_ready (rs := [10]) (by kernel_rfl) (by simp) ?_
  refine AllReadyH.cons (o := ⟨_, _, _, _, _, _⟩) rfl (fun K hK => ?_) AllReadyH.nil
  go_simp
  (try (rw [rowIn_of (old := rowN .u64 64 4 0) (t' := 24) (by ((try rw [← Array.getElem?_eq_getElem]); repeat (first | exact heap_alloc_new _ _ | exact heap_alloc2_new _ _ _ | refine keep_alloc ?_ | refine keep_fr (by assumption) ?_))) (rowN_size _ _ _ _) (rowN_size _ _ _ _) (rowN_rowOne _ _ _ _)]; go_simp))
  refine hK.out _ _ ?_ (fun hHeld => ?_)
  · ((try dsimp only) <;> (first | exact ⟨r0, F.drew⟩ | exact ⟨keep_fr f5 hHeld.1, hHeld.2.trans' f5⟩ | exact ⟨keep_alloc hHeld.1, hHeld.2.alloc _⟩ | exact ⟨keep_row (by have := HG0.out; omega) hHeld.1, hHeld.2.setRow (fun h => by have := HG0.out; omega) _⟩))
  clear hK K
  try (simp only [Act.put, List.setIfInBounds_toArray]; dsimp only [List.set_cons_zero, List.set_cons_succ])
  refine wpAnyH_ready (rs := [11]) (by kernel_rfl) (by simp) ?_
  refine AllReadyH.cons (o := ⟨_, _, _, _, _, _⟩) rfl (fun K hK => ?_) AllReadyH.nil
  go_simp
  (try (rw [rowIn_of (old := rowN .u64 64 4 0) (t' := 24) (by ((try rw [← Array.getElem?_eq_getElem]); repeat (first | exact heap_alloc_new _ _ | exact heap_alloc2_new _ _ _ | refine keep_row (by (try simp only [World.size_alloc]); omega) ?_ | refine keep_alloc ?_ | refine keep_fr (by assumption) ?_))) (rowN_size _ _ _ _) (rowN_size _ _ _ _) (rowN_rowOne _ _ _ _)]; go_simp))
  refine hK.out _ _ ?_ (fun hHeld => ?_)
  · ((try dsimp only) <;> (first | exact ⟨r0, F.drew⟩ | exact ⟨keep_fr f5 hHeld.1, hHeld.2.trans' f5⟩ | exact ⟨keep_alloc hHeld.1, hHeld.2.alloc _⟩ | exact ⟨keep_row (by have := HG0.out; omega) hHeld.1, hHeld.2.setRow (fun h => by have := HG0.out; omega) _⟩))
  clear hK K
  try (simp only [Act.put, List.setIfInBounds_toArray]; dsimp only [List.set_cons_zero, List.set_cons_succ])
  refine wpAnyH_take (i := 12) (oi := ⟨_, _, _, _, _, _⟩) (v := ?_) rfl (by kernel_rfl) (by kernel_rfl) (by kernel_rfl) (fun _ _ _ h => h) (Or.inl ⟨by rfl, ?_⟩) (by assumption) ?_
  rotate_left
  · intro w hSw; (try dsimp only at hSw); go_simp; (try (with_reducible rfl)); done
  simp only [Act.put, List.setIfInBounds_toArray]; dsimp only [List.set_cons_zero, List.set_cons_succ]
  refine wpAnyH_done (by kernel_rfl) ?_ _
  refine NoPanic.normal ?_
  rotate_left
  all_goals
    refine hK.out ⟨⟨_, _, rfl, rfl, ?_, ?_⟩, rfl, hHeld.1, hHeld.2⟩
    · refine keep_row (by (try simp only [World.size_alloc]); omega) (new_row (z := rowN .u64 64 4 0) (t := 24) (f := (0, 0)) ?_)
      repeat (first | exact heap_alloc_new _ _ | exact heap_alloc2_new _ _ _ | refine keep_alloc ?_ | refine keep_fr (by assumption) ?_)
    · refine new_row (z := rowN .u64 64 4 0) (t := 24) (f := (0, 0)) (keep_row (by (try simp only [World.size_alloc]); omega) ?_)
      repeat (first | exact heap_alloc_new _ _ | exact heap_alloc2_new _ _ _ | refine keep_alloc ?_ | refine keep_fr (by assumption) ?_)
end Go.Proofs.Ytbkkfeabofhlnaa
